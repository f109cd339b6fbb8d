import Derived.Test.YtdnlfacfleemeaaK26
namespace Go.Proofs.Ytdnlfacfleemeaa.O
open Go.RowKit Go.Lib

/-- A row whose cells are known. -/
theorem rf_mk {W : World} {s b n : Nat} {cs : List Value} (hl : cs.length = n * s) (h1 : ∀ u ∈ cs, u.oneCell' = true) (hn : n ≤ maxLen) (h : ∀ j u, cs[j]? = some u → W.cell? ⟨b, j, none⟩ = some u) : Rf W s (sx b n) n cs :=
  ⟨hl, h1, .inr ⟨_, _, rfl, Nat.le_refl _, hn, fun j u hu => by rw [add_lit, Nat.zero_add]; exact h j u hu⟩⟩

theorem flat_at {α : Type} {f : α → List Value} {s : Nat} (hf : ∀ y, (f y).length = s) {l : List α} {W : World} {b : Nat} (h : ∀ k x, l[k]? = some x → ∀ c u, c < s → (f x)[c]? = some u → W.cell? ⟨b, k * s + c, none⟩ = some u) (hs : 0 < s) : ∀ j u, (l.flatMap f)[j]? = some u → W.cell? ⟨b, j, none⟩ = some u := by
  intro j u hu
  have hj : j = j / s * s + j % s := by rw [Nat.mul_comm]; exact (Nat.div_add_mod j s).symm
  have hc : j % s < s := Nat.mod_lt _ hs
  rw [hj, flat_get f s hf l _ _ hc] at hu
  cases hx : l[j / s]? with
  | none => rw [hx] at hu; cases hu
  | some x =>
    rw [hx] at hu
    have := h _ x hx (j % s) u hc hu
    rwa [← hj] at this

theorem rf_vs {W : World} {b : Nat} {vs : List Vd} (hn : vs.length ≤ maxLen) (h : ∀ j x, vs[j]? = some x → VdAt W b (j * 3) x) : Rf W 3 (sx b vs.length) vs.length (vs.flatMap Vd.cells) := by
  refine rf_mk (flat_len Vd.cells 3 vd_cells vs) (fun u hu => ?_) hn (flat_at vd_cells (fun k x hx c u hc hu => ?_) (by decide))
  · obtain ⟨x, _, hx⟩ := List.mem_flatMap.1 hu
    exact vd_one x u hx
  · obtain ⟨a0, a1, a2⟩ := h k x hx
    have h3 : c = 0 ∨ c = 1 ∨ c = 2 := by omega
    rcases h3 with rfl | rfl | rfl <;> (simp [Vd.cells] at hu; subst hu; assumption)

theorem rf_xs {W : World} {b : Nat} {xs : List Ins} (hn : xs.length ≤ maxLen) (h : ∀ j x, xs[j]? = some x → InsAt W b (j * 8) x) : Rf W 8 (sx b xs.length) xs.length (xs.flatMap Ins.cells) := by
  refine rf_mk (flat_len Ins.cells 8 ins_cells xs) (all_one xs) hn (flat_at ins_cells (fun k x hx c u hc hu => ?_) (by decide))
  obtain ⟨a0, a1, a2, a3, a4, a5, a6, a7⟩ := h k x hx
  have h8 : c = 0 ∨ c = 1 ∨ c = 2 ∨ c = 3 ∨ c = 4 ∨ c = 5 ∨ c = 6 ∨ c = 7 := by omega
  rcases h8 with rfl | rfl | rfl | rfl | rfl | rfl | rfl | rfl <;> (simp [Ins.cells] at hu; subst hu; assumption)

/-- What the transactions of a batch lie as. -/
def tcl (A1 A2 : Nat → Option Addr) (p : Txd × Nat) : List Value := [.int .i64 p.1.k, .string p.1.pn, .int .i64 p.1.pa, .slice (A1 p.2) p.1.xs.length p.1.xs.length, .string p.1.nm, .slice (A2 p.2) p.1.vs.length p.1.vs.length]
theorem tcl_len (A1 A2 : Nat → Option Addr) (p : Txd × Nat) : (tcl A1 A2 p).length = 6 := rfl
def tcells (ts : List Txd) (A1 A2 : Nat → Option Addr) : List Value := ts.zipIdx.flatMap (tcl A1 A2)

theorem rf_ts {W : World} {b : Nat} {ts : List Txd} {A1 A2 : Nat → Option Addr} (hn : ts.length ≤ maxLen) (h : ∀ (k : Nat) (t : Txd), ts[k]? = some t → TxC W b (k * 6) t (.slice (A1 k) t.xs.length t.xs.length) (.slice (A2 k) t.vs.length t.vs.length)) : Rf W 6 (sx b ts.length) ts.length (tcells ts A1 A2) := by
  refine rf_mk ?_ (fun u hu => ?_) hn (flat_at (f := tcl A1 A2) (tcl_len A1 A2) (fun k x hx c u hc hu => ?_) (by decide))
  · unfold tcells
    rw [flat_len (tcl A1 A2) 6 (tcl_len A1 A2)]
    simp
  · obtain ⟨x, _, hx⟩ := List.mem_flatMap.1 hu
    simp [tcl] at hx
    rcases hx with rfl | rfl | rfl | rfl | rfl | rfl <;> rfl
  · have hx' := hx
    rw [List.getElem?_zipIdx] at hx'
    cases ht : ts[k]? with
    | none => rw [ht] at hx'; cases hx'
    | some t =>
      rw [ht] at hx'
      simp at hx'
      subst hx'
      obtain ⟨a0, a1, a2, a3, a4, a5⟩ := h k t ht
      have h6 : c = 0 ∨ c = 1 ∨ c = 2 ∨ c = 3 ∨ c = 4 ∨ c = 5 := by omega
      rcases h6 with rfl | rfl | rfl | rfl | rfl | rfl <;> (simp [tcl] at hu; subst hu; assumption)

theorem flat_first {α : Type} {f : α → List Value} {s : Nat} (hf : ∀ y, (f y).length = s) (hs : 0 < s) {l : List α} {k : Nat} {x : α} (hx : l[k]? = some x) : (l.flatMap f)[k * s]? = (f x)[0]? := by
  have := flat_get f s hf l k 0 hs
  rw [Nat.add_zero] at this
  rw [this, hx]
  rfl

abbrev zV : Vd := ⟨0, 0, emp⟩
abbrev zI : Ins := ⟨0, 0, 0, 0, 0, 0, 0, emp⟩
def tAt (ts : List Txd) (k : Nat) : Txd := ts.getD k zTx
theorem tAt_get {ts : List Txd} {k : Nat} (h : k < ts.length) : ts[k]? = some (tAt ts k) := by simp [tAt, List.getD, h]

/-- Short enough. -/
structure Shrt (bs : List Int) (ts : List Txd) : Prop where
  b : bs.length ≤ 1000000
  t : ts.length ≤ 1000
  x : ∀ t ∈ ts, t.xs.length ≤ 1000000 ∧ t.vs.length ≤ 1000000

theorem tAt_mem {ts : List Txd} {k : Nat} (h : k < ts.length) : tAt ts k ∈ ts := by
  have := tAt_get h
  exact List.mem_of_getElem? this

theorem T_mono {T : Nat → Nat} {i : Nat} (h : ∀ j, j < i → T j ≤ T (j + 1)) : ∀ d k, k + d ≤ i → T k ≤ T (k + d)
  | 0, k, _ => Nat.le_refl _
  | d + 1, k, hk => Nat.le_trans (T_mono h d k (by omega)) (h (k + d) (by omega))

theorem Q1.base {w1 W : World} {v7 v8 : Value} {f : Int} {bs : List Int} {ts : List Txd} {g x T : Nat → Nat} {A1 A2 : Nat → Nat → Option Addr} {i : Nat} (h : Q1 w1 W v7 v8 f bs ts g x T A1 A2 i) {j : Nat} (hj : j ≤ i) : w1.heap.size ≤ T j := by
  have := T_mono h.tm j 0 (by omega)
  rw [Nat.zero_add] at this
  exact Nat.le_trans h.t0 this

theorem Q1.f5 {w1 W : World} {v7 v8 : Value} {f : Int} {bs : List Int} {ts : List Txd} {g x T : Nat → Nat} {A1 A2 : Nat → Nat → Option Addr} (h : Q1 w1 W v7 v8 f bs ts g x T A1 A2 3) (hs : Shrt bs ts) :
    Fam W w1.heap.size 5 1 .u8 3 (fun j => some ⟨g j, 0, none⟩) (fun _ => bs.length) (fun _ k => bs.getD k 0) := by
  refine ⟨fun j hj _ => ?_, fun i j hij hj _ _ e => ?_⟩
  · obtain ⟨h1, h2, h3⟩ := h.ro j hj
    have hb := h.base (j := j) (by omega)
    have how := h1.owns (B := 0) (Nat.zero_le _) (by have := hs.b; unfold maxLen; omega)
    refine ⟨g j, B8 bs, rfl, by omega, ⟨_, h1⟩, rf_of_owns how (by intro u hu; obtain ⟨_, _, rfl⟩ := List.mem_map.1 hu; rfl), fun k hk => ?_⟩
    rw [Nat.mul_one]
    simp [B8, List.getD, hk]
  · injection e with e
    injection e with e
    have h1 := h.ro i (by omega)
    have h2 := h.ro j hj
    have := T_mono h.tm (j - (i + 1)) (i + 1) (by omega)
    rw [show i + 1 + (j - (i + 1)) = j by omega] at this
    omega

theorem Q1.f30 {w1 W : World} {v7 v8 : Value} {f : Int} {bs : List Int} {ts : List Txd} {g x T : Nat → Nat} {A1 A2 : Nat → Nat → Option Addr} (h : Q1 w1 W v7 v8 f bs ts g x T A1 A2 3) (hs : Shrt bs ts) :
    Fam W w1.heap.size 30 6 .i64 3 (fun j => some ⟨x j, 0, none⟩) (fun _ => ts.length) (fun _ k => (tAt ts k).k) := by
  refine ⟨fun j hj _ => ?_, fun i j hij hj _ _ e => ?_⟩
  · have hB := h.tx j hj
    have hb := h.base (j := j) (by omega)
    refine ⟨x j, tcells ts (A1 j) (A2 j), rfl, by have := hB.lx; omega, hB.ty, rf_ts (by have := hs.t; unfold maxLen; omega) hB.at_, fun k hk => ?_⟩
    unfold tcells
    rw [flat_first (f := tcl (A1 j) (A2 j)) (x := (tAt ts k, k)) (tcl_len _ _) (by decide) (by rw [List.getElem?_zipIdx, tAt_get hk]; simp)]
    rfl
  · injection e with e
    injection e with e
    have h1 := (h.tx i (by omega)).lx
    have h2 := (h.tx j hj).lx
    have := T_mono h.tm (j - (i + 1)) (i + 1) (by omega)
    rw [show i + 1 + (j - (i + 1)) = j by omega] at this
    omega

theorem dm {n m : Nat} (hm : m < 3 * n) : m / n < 3 ∧ m % n < n := by
  have hn : 0 < n := by omega
  refine ⟨?_, Nat.mod_lt _ hn⟩
  rw [Nat.div_lt_iff_lt_mul hn]
  exact hm

theorem dm_lt {n i j : Nat} (hij : i < j) (hj : j < 3 * n) : i / n < j / n ∨ (i / n = j / n ∧ i % n < j % n) := by
  have hn : 0 < n := by omega
  have hle : i / n ≤ j / n := Nat.div_le_div_right (by omega)
  rcases Nat.lt_or_eq_of_le hle with h | h
  · exact .inl h
  · right
    have e1 := Nat.div_add_mod i n
    have e2 := Nat.div_add_mod j n
    rw [h] at e1
    omega

theorem Q1.f50 {w1 W : World} {v7 v8 : Value} {f : Int} {bs : List Int} {ts : List Txd} {g x T : Nat → Nat} {A1 A2 : Nat → Nat → Option Addr} (h : Q1 w1 W v7 v8 f bs ts g x T A1 A2 3) (hs : Shrt bs ts) :
    Fam W w1.heap.size 50 3 .i64 (3 * ts.length) (fun m => A2 (m / ts.length) (m % ts.length)) (fun m => (tAt ts (m % ts.length)).vs.length) (fun m k => ((tAt ts (m % ts.length)).vs.getD k zV).k) := by
  refine ⟨fun m hm hn => ?_, fun i j hij hj n1 n2 e => ?_⟩
  · obtain ⟨d1, d2⟩ := dm hm
    have hB := h.tx _ d1
    have hb := h.base (j := m / ts.length) (by omega)
    obtain ⟨b, cs, g1, g2, g3, g4, g5⟩ := hB.c2 _ _ (tAt_get d2) hn
    refine ⟨b, _, g1, by omega, ⟨cs, g4⟩, rf_vs (by have := (hs.x _ (tAt_mem d2)).2; unfold maxLen; omega) g5, fun k hk => ?_⟩
    rw [flat_first (x := (tAt ts (m % ts.length)).vs.getD k zV) vd_cells (by decide) (by simp [List.getD, hk])]
    rfl
  · obtain ⟨d1, d2⟩ := dm (show i < 3 * ts.length by omega)
    obtain ⟨d3, d4⟩ := dm hj
    rcases dm_lt hij hj with hl | ⟨he, hl⟩
    · obtain ⟨b, _, g1, g2, g3, _⟩ := (h.tx _ d1).c2 _ _ (tAt_get d2) n1
      obtain ⟨b', _, g1', g2', g3', _⟩ := (h.tx _ d3).c2 _ _ (tAt_get d4) n2
      have := T_mono h.tm (j / ts.length - (i / ts.length + 1)) (i / ts.length + 1) (by omega)
      rw [show i / ts.length + 1 + (j / ts.length - (i / ts.length + 1)) = j / ts.length by omega] at this
      rw [g1, g1'] at e
      injection e with e
      injection e with e
      omega
    · refine ((h.tx _ d3).ap (i % ts.length) (j % ts.length) _ _ hl (tAt_get d2) (tAt_get d4)).2 n1 n2 ?_
      rw [he] at e
      exact e

theorem Q1.f52 {w1 W : World} {v7 v8 : Value} {f : Int} {bs : List Int} {ts : List Txd} {g x T : Nat → Nat} {A1 A2 : Nat → Nat → Option Addr} (h : Q1 w1 W v7 v8 f bs ts g x T A1 A2 3) (hs : Shrt bs ts) :
    Fam W w1.heap.size 52 8 .i64 (3 * ts.length) (fun m => A1 (m / ts.length) (m % ts.length)) (fun m => (tAt ts (m % ts.length)).xs.length) (fun m k => ((tAt ts (m % ts.length)).xs.getD k zI).op) := by
  refine ⟨fun m hm hn => ?_, fun i j hij hj n1 n2 e => ?_⟩
  · obtain ⟨d1, d2⟩ := dm hm
    have hB := h.tx _ d1
    have hb := h.base (j := m / ts.length) (by omega)
    obtain ⟨b, cs, g1, g2, g3, g4, g5⟩ := hB.c1 _ _ (tAt_get d2) hn
    refine ⟨b, _, g1, by omega, ⟨cs, g4⟩, rf_xs (by have := (hs.x _ (tAt_mem d2)).1; unfold maxLen; omega) g5, fun k hk => ?_⟩
    rw [flat_first (x := (tAt ts (m % ts.length)).xs.getD k zI) ins_cells (by decide) (by simp [List.getD, hk])]
    rfl
  · obtain ⟨d1, d2⟩ := dm (show i < 3 * ts.length by omega)
    obtain ⟨d3, d4⟩ := dm hj
    rcases dm_lt hij hj with hl | ⟨he, hl⟩
    · obtain ⟨b, _, g1, g2, g3, _⟩ := (h.tx _ d1).c1 _ _ (tAt_get d2) n1
      obtain ⟨b', _, g1', g2', g3', _⟩ := (h.tx _ d3).c1 _ _ (tAt_get d4) n2
      have := T_mono h.tm (j / ts.length - (i / ts.length + 1)) (i / ts.length + 1) (by omega)
      rw [show i / ts.length + 1 + (j / ts.length - (i / ts.length + 1)) = j / ts.length by omega] at this
      rw [g1, g1'] at e
      injection e with e
      injection e with e
      omega
    · refine ((h.tx _ d3).ap (i % ts.length) (j % ts.length) _ _ hl (tAt_get d2) (tAt_get d4)).1 n1 n2 ?_
      rw [he] at e
      exact e

end Go.Proofs.Ytdnlfacfleemeaa.O

namespace Go.Proofs.Ytdnlfacfleemeaa.O
open Go.RowKit Go.Lib

abbrev sa (a : Option Addr) (n : Nat) : Value := .slice a n n

/-- The lists within, one behind the other. -/
structure Q2 (W2 W : World) (v15 v16 : Value) (A1 A2 : Nat → Option Addr) (n1 n2 : Nat → Nat) (m : Nat) : Prop where
  hb : Below W2.heap.size W2 W
  r15 : W.ownsRow W2.heap.size 28 1 v15 m ((List.range m).map (fun j => sa (A2 j) (n2 j)))
  r16 : W.ownsRow W2.heap.size 25 1 v16 m ((List.range m).map (fun j => sa (A1 j) (n1 j)))

theorem Q2.below {W2 W W' : World} {v15 v16 : Value} {A1 A2 : Nat → Option Addr} {n1 n2 : Nat → Nat} {m : Nat} (h : Q2 W2 W v15 v16 A1 A2 n1 n2 m) (hb : Below W.heap.size W W') : Q2 W2 W' v15 v16 A1 A2 n1 n2 m :=
  ⟨below_on h.hb hb, ownsRow_kept h.r15 (Kept.ofBelow hb) (fun _ _ h => h), ownsRow_kept h.r16 (Kept.ofBelow hb) (fun _ _ h => h)⟩

theorem Q2.more {W2 W w10 w11 : World} {v15 v16 v15' v16' : Value} {A1 A2 : Nat → Option Addr} {n1 n2 : Nat → Nat} {m : Nat} (h : Q2 W2 W v15 v16 A1 A2 n1 n2 m) {o1 o2 : Obj}
    (h10 : w10.ownsRow W2.heap.size 28 1 v15' (m + 1) ((List.range m).map (fun j => sa (A2 j) (n2 j)) ++ [sa (A2 m) (n2 m)])) (k10 : Wro W2.heap.size 28 (W.alloc o1) w10)
    (h11 : w11.ownsRow W2.heap.size 25 1 v16' (m + 1) ((List.range m).map (fun j => sa (A1 j) (n1 j)) ++ [sa (A1 m) (n1 m)])) (k11 : Wro W2.heap.size 25 (w10.alloc o2) w11) :
    Q2 W2 w11 v15' v16' A1 A2 n1 n2 (m + 1) := by
  have b1 := below1 W o1
  have b2 := below1 w10 o2
  have z1 := b1.size
  have z2 := k10.size
  have z3 := b2.size
  have hbw := h.hb.size
  refine ⟨?_, ?_, ?_⟩
  · have e1 := below_on h.hb b1
    have e2 := e1.trans (k10.below (by omega))
    have e3 := below_on e2 b2
    exact e3.trans (k11.below (by omega))
  · rw [range_snoc]
    exact owns_kp (ownsRow_kept h10 (Kept.ofBelow b2) (fun _ _ h => h)) k11 (by decide)
  · rw [range_snoc]
    exact h11

/-- All lists and all headers. -/
structure Q3 (w1 W : World) (b7 b8 b15 b16 L n K : Nat) (n1 n2 g x : Nat → Nat) (A1 A2 : Nat → Option Addr) (m5 m30 m50 m52 : Nat → Nat → Int) : Prop where
  hb : Below w1.heap.size w1 W
  h7 : Hd W 34 b7 1 0 3 (fun j => sx (g j) L)
  h8 : Hd W 24 b8 2 1 3 (fun j => sx (x j) n)
  h15 : Hd W 28 b15 1 0 K (fun j => sa (A2 j) (n2 j))
  h16 : Hd W 25 b16 1 0 K (fun j => sa (A1 j) (n1 j))
  f5 : Fam W w1.heap.size 5 1 .u8 3 (fun j => some ⟨g j, 0, none⟩) (fun _ => L) m5
  f30 : Fam W w1.heap.size 30 6 .i64 3 (fun j => some ⟨x j, 0, none⟩) (fun _ => n) m30
  f50 : Fam W w1.heap.size 50 3 .i64 K A2 n2 m50
  f52 : Fam W w1.heap.size 52 8 .i64 K A1 n1 m52

theorem Q3.below {w1 W W' : World} {b7 b8 b15 b16 L n K : Nat} {n1 n2 g x : Nat → Nat} {A1 A2 : Nat → Option Addr} {m5 m30 m50 m52 : Nat → Nat → Int} (h : Q3 w1 W b7 b8 b15 b16 L n K n1 n2 g x A1 A2 m5 m30 m50 m52) (hb : Below W.heap.size W W') : Q3 w1 W' b7 b8 b15 b16 L n K n1 n2 g x A1 A2 m5 m30 m50 m52 :=
  ⟨below_on h.hb hb, h.h7.below hb, h.h8.below hb, h.h15.below hb, h.h16.below hb, h.f5.below hb, h.f30.below hb, h.f50.below hb, h.f52.below hb⟩

theorem Q3.set5 {w1 W : World} {b7 b8 b15 b16 L n K : Nat} {n1 n2 g x : Nat → Nat} {A1 A2 : Nat → Option Addr} {m5 m30 m50 m52 : Nat → Nat → Int} (h : Q3 w1 W b7 b8 b15 b16 L n K n1 n2 g x A1 A2 m5 m30 m50 m52) {i k : Nat} (hi : i < 3) (hk : k < L) (v : Int) :
    W.cell? ⟨g i, k, none⟩ = some (.int .u8 (m5 i k)) ∧ (∀ o, W.frozen? ⟨g i, o, none⟩ = false) ∧ Q3 w1 (W.setCell ⟨g i, k, none⟩ (.int .u8 v)) b7 b8 b15 b16 L n K n1 n2 g x A1 A2 (upd m5 i (upd (m5 i) k v)) m30 m50 m52 := by
  obtain ⟨b, e1, e2, e3, e4, e5⟩ := h.f5.set (by decide) hi hk v
  injection e1 with e1
  injection e1 with e1
  subst e1
  rw [Nat.mul_one] at e2 e4 e5
  exact ⟨e2, e3, ⟨h.hb.trans (e5.below h.hb.size), h.h7.wro e5 (by decide), h.h8.wro e5 (by decide), h.h15.wro e5 (by decide), h.h16.wro e5 (by decide), e4, h.f30.wro e5 (by decide), h.f50.wro e5 (by decide), h.f52.wro e5 (by decide)⟩⟩

theorem Q3.set30 {w1 W : World} {b7 b8 b15 b16 L n K : Nat} {n1 n2 g x : Nat → Nat} {A1 A2 : Nat → Option Addr} {m5 m30 m50 m52 : Nat → Nat → Int} (h : Q3 w1 W b7 b8 b15 b16 L n K n1 n2 g x A1 A2 m5 m30 m50 m52) {i k : Nat} (hi : i < 3) (hk : k < n) (v : Int) :
    W.cell? ⟨x i, k * 6, none⟩ = some (.int .i64 (m30 i k)) ∧ (∀ o, W.frozen? ⟨x i, o, none⟩ = false) ∧ Q3 w1 (W.setCell ⟨x i, k * 6, none⟩ (.int .i64 v)) b7 b8 b15 b16 L n K n1 n2 g x A1 A2 m5 (upd m30 i (upd (m30 i) k v)) m50 m52 := by
  obtain ⟨b, e1, e2, e3, e4, e5⟩ := h.f30.set (by decide) hi hk v
  injection e1 with e1
  injection e1 with e1
  subst e1
  exact ⟨e2, e3, ⟨h.hb.trans (e5.below h.hb.size), h.h7.wro e5 (by decide), h.h8.wro e5 (by decide), h.h15.wro e5 (by decide), h.h16.wro e5 (by decide), h.f5.wro e5 (by decide), e4, h.f50.wro e5 (by decide), h.f52.wro e5 (by decide)⟩⟩

theorem Q3.set50 {w1 W : World} {b7 b8 b15 b16 L n K : Nat} {n1 n2 g x : Nat → Nat} {A1 A2 : Nat → Option Addr} {m5 m30 m50 m52 : Nat → Nat → Int} (h : Q3 w1 W b7 b8 b15 b16 L n K n1 n2 g x A1 A2 m5 m30 m50 m52) {i k : Nat} (hi : i < K) (hk : k < n2 i) (v : Int) :
    ∃ b, A2 i = some ⟨b, 0, none⟩ ∧ W.cell? ⟨b, k * 3, none⟩ = some (.int .i64 (m50 i k)) ∧ (∀ o, W.frozen? ⟨b, o, none⟩ = false) ∧ Q3 w1 (W.setCell ⟨b, k * 3, none⟩ (.int .i64 v)) b7 b8 b15 b16 L n K n1 n2 g x A1 A2 m5 m30 (upd m50 i (upd (m50 i) k v)) m52 := by
  obtain ⟨b, e1, e2, e3, e4, e5⟩ := h.f50.set (by decide) hi hk v
  exact ⟨b, e1, e2, e3, ⟨h.hb.trans (e5.below h.hb.size), h.h7.wro e5 (by decide), h.h8.wro e5 (by decide), h.h15.wro e5 (by decide), h.h16.wro e5 (by decide), h.f5.wro e5 (by decide), h.f30.wro e5 (by decide), e4, h.f52.wro e5 (by decide)⟩⟩

theorem Q3.set52 {w1 W : World} {b7 b8 b15 b16 L n K : Nat} {n1 n2 g x : Nat → Nat} {A1 A2 : Nat → Option Addr} {m5 m30 m50 m52 : Nat → Nat → Int} (h : Q3 w1 W b7 b8 b15 b16 L n K n1 n2 g x A1 A2 m5 m30 m50 m52) {i k : Nat} (hi : i < K) (hk : k < n1 i) (v : Int) :
    ∃ b, A1 i = some ⟨b, 0, none⟩ ∧ W.cell? ⟨b, k * 8, none⟩ = some (.int .i64 (m52 i k)) ∧ (∀ o, W.frozen? ⟨b, o, none⟩ = false) ∧ Q3 w1 (W.setCell ⟨b, k * 8, none⟩ (.int .i64 v)) b7 b8 b15 b16 L n K n1 n2 g x A1 A2 m5 m30 m50 (upd m52 i (upd (m52 i) k v)) := by
  obtain ⟨b, e1, e2, e3, e4, e5⟩ := h.f52.set (by decide) hi hk v
  exact ⟨b, e1, e2, e3, ⟨h.hb.trans (e5.below h.hb.size), h.h7.wro e5 (by decide), h.h8.wro e5 (by decide), h.h15.wro e5 (by decide), h.h16.wro e5 (by decide), h.f5.wro e5 (by decide), h.f30.wro e5 (by decide), h.f50.wro e5 (by decide), e4⟩⟩

/-- The headers, as the walk asks for them. -/
theorem Q3.d7 {w1 W : World} {b7 b8 b15 b16 L n K : Nat} {n1 n2 g x : Nat → Nat} {A1 A2 : Nat → Option Addr} {m5 m30 m50 m52 : Nat → Nat → Int} (h : Q3 w1 W b7 b8 b15 b16 L n K n1 n2 g x A1 A2 m5 m30 m50 m52) {i : Nat} (hi : i < 3) : W.cell? ⟨b7, i, none⟩ = some (sx (g i) L) := by simpa using h.h7.at_ i hi
theorem Q3.d8 {w1 W : World} {b7 b8 b15 b16 L n K : Nat} {n1 n2 g x : Nat → Nat} {A1 A2 : Nat → Option Addr} {m5 m30 m50 m52 : Nat → Nat → Int} (h : Q3 w1 W b7 b8 b15 b16 L n K n1 n2 g x A1 A2 m5 m30 m50 m52) {i : Nat} (hi : i < 3) : W.cell? ⟨b8, i * 2 + 1, none⟩ = some (sx (x i) n) := h.h8.at_ i hi
theorem Q3.d15 {w1 W : World} {b7 b8 b15 b16 L n K : Nat} {n1 n2 g x : Nat → Nat} {A1 A2 : Nat → Option Addr} {m5 m30 m50 m52 : Nat → Nat → Int} (h : Q3 w1 W b7 b8 b15 b16 L n K n1 n2 g x A1 A2 m5 m30 m50 m52) {i : Nat} (hi : i < K) : W.cell? ⟨b15, i, none⟩ = some (sa (A2 i) (n2 i)) := by simpa using h.h15.at_ i hi
theorem Q3.d16 {w1 W : World} {b7 b8 b15 b16 L n K : Nat} {n1 n2 g x : Nat → Nat} {A1 A2 : Nat → Option Addr} {m5 m30 m50 m52 : Nat → Nat → Int} (h : Q3 w1 W b7 b8 b15 b16 L n K n1 n2 g x A1 A2 m5 m30 m50 m52) {i : Nat} (hi : i < K) : W.cell? ⟨b16, i, none⟩ = some (sa (A1 i) (n1 i)) := by simpa using h.h16.at_ i hi

/-- Written full up to the i-th, of that one up to k. -/
def Dn (m : Nat → Nat → Int) (n : Nat → Nat) (base : Int) (i k : Nat) : Prop := (∀ j, j < i → ∀ p, p < n j → m j p = base + j) ∧ ∀ p, p < k → m i p = base + i
theorem dn_zero (m : Nat → Nat → Int) (n : Nat → Nat) (base : Int) : Dn m n base 0 0 := ⟨fun _ h => absurd h (Nat.not_lt_zero _), fun _ h => absurd h (Nat.not_lt_zero _)⟩
theorem Dn.step {m : Nat → Nat → Int} {n : Nat → Nat} {base : Int} {i k : Nat} (h : Dn m n base i k) : Dn (upd m i (upd (m i) k (base + i))) n base i (k + 1) := by
  refine ⟨fun j hj p hp => ?_, fun p hp => ?_⟩
  · rw [upd_ne _ _ (by omega)]; exact h.1 j hj p hp
  · rw [upd_self]
    by_cases e : p = k
    · subst e; rw [upd_self]
    · rw [upd_ne _ _ e]; exact h.2 p (by omega)
theorem Dn.next {m : Nat → Nat → Int} {n : Nat → Nat} {base : Int} {i : Nat} (h : Dn m n base i (n i)) : Dn m n base (i + 1) 0 := by
  refine ⟨fun j hj p hp => ?_, fun p hp => absurd hp (Nat.not_lt_zero _)⟩
  by_cases e : j = i
  · subst e; exact h.2 p hp
  · exact h.1 j (by omega) p hp

/-- A list that was added to. -/
def Lg (W : World) (B : Nat) (e : TypeId) (s : Nat) (ik : IntKind) (v : Value) (N E : Nat) (x y : Int) : Prop := ∃ cs, W.ownsRow B e s v (N + E) cs ∧ (∀ u ∈ cs, u.oneCell' = true) ∧ ∀ p, p < N + E → cs[p * s]? = some (.int ik (if p < N then x else y))

theorem Lg.kp {W W' : World} {B : Nat} {e : TypeId} {s : Nat} {ik : IntKind} {v : Value} {N E : Nat} {x y : Int} (h : Lg W B e s ik v N E x y) {B' : Nat} {e' : TypeId} (hk : Wro B' e' W W') (hne : e ≠ e') : Lg W' B e s ik v N E x y := by
  obtain ⟨cs, h1, h2, h3⟩ := h
  exact ⟨cs, owns_kp h1 hk hne, h2, h3⟩
theorem Lg.below {W W' : World} {B : Nat} {e : TypeId} {s : Nat} {ik : IntKind} {v : Value} {N E : Nat} {x y : Int} (h : Lg W B e s ik v N E x y) (hb : Below W.heap.size W W') : Lg W' B e s ik v N E x y := by
  obtain ⟨cs, h1, h2, h3⟩ := h
  exact ⟨cs, ownsRow_kept h1 (Kept.ofBelow hb) (fun _ _ h => h), h2, h3⟩
theorem Lg.mono {W : World} {B B' : Nat} {e : TypeId} {s : Nat} {ik : IntKind} {v : Value} {N E : Nat} {x y : Int} (h : Lg W B e s ik v N E x y) (hB : B' ≤ B) : Lg W B' e s ik v N E x y := by
  obtain ⟨cs, h1, h2, h3⟩ := h
  exact ⟨cs, owns_mono h1 hB, h2, h3⟩
theorem Lg.at_ {W : World} {B : Nat} {e : TypeId} {s : Nat} {ik : IntKind} {v : Value} {N E : Nat} {x y : Int} (h : Lg W B e s ik v N E x y) (hE : 0 < E) : ∃ b c, v = .slice (some ⟨b, 0, none⟩) (N + E) c ∧ ∀ p, p < N + E → W.cell? ⟨b, p * s, none⟩ = some (.int ik (if p < N then x else y)) := by
  obtain ⟨cs, h1, h2, h3⟩ := h
  have hr := rf_of_owns h1 h2
  rcases h1.2 with ⟨rfl, hn⟩ | ⟨g, cap, cur, rfl, _⟩
  · omega
  · exact ⟨g, cap, rfl, fun p hp => rf_cell hr (h3 p hp)⟩

/-- While a list is added to. -/
def Gi (W : World) (B : Nat) (e : TypeId) (s : Nat) (ik : IntKind) (v : Value) (N k : Nat) (x y : Int) : Prop := ∃ cs, Gr W B e s v (N + k) cs ∧ (∀ u ∈ cs, u.oneCell' = true) ∧ (∀ p, p < N + k → cs[p * s]? = some (.int ik (if p < N then x else y))) ∧ (0 < k → W.ownsRow B e s v (N + k) cs)

theorem gi_start {W : World} {B : Nat} {e : TypeId} {s : Nat} {ik : IntKind} {K : Nat} {A : Nat → Option Addr} {n : Nat → Nat} {m : Nat → Nat → Int} (h : Fam W B e s ik K A n m) {i : Nat} (hi : i < K) {x : Int} (hx : ∀ p, p < n i → m i p = x) (y : Int) : Gi W W.heap.size e s ik (sa (A i) (n i)) (n i) 0 x y := by
  by_cases hn : n i = 0
  · rw [hn]
    exact ⟨[], .inr ⟨A i, rfl, fun _ => rfl, by simp, fun _ h => (nomatch h), fun b _ j u hu => by simp at hu⟩, fun _ h => (nomatch h), fun p hp => absurd hp (Nat.not_lt_zero _), fun h => absurd h (Nat.lt_irrefl _)⟩
  · obtain ⟨b, cs, h1, h2, ⟨ar, h3⟩, h4, h5⟩ := h.li i hi hn
    refine ⟨cs, .inr ⟨A i, rfl, fun e => (by rw [h1] at e; cases e), h4.1, h4.2.1, fun b' hb' j u hu => ?_⟩, h4.2.1, fun p hp => ?_, fun h => absurd h (Nat.lt_irrefl _)⟩
    · rw [h1] at hb'
      injection hb' with hb'
      subst hb'
      refine ⟨lt_of h3, lt_of h3, ?_⟩
      rw [add_lit, Nat.zero_add]
      exact rf_cell h4 hu
    · have hp' : p < n i := hp
      rw [h5 p hp', if_pos hp', hx p hp']

theorem Gi.more {w3 : World} {B : Nat} {e : TypeId} {s : Nat} {ik : IntKind} {N k : Nat} {x y : Int} {v' : Value} {cs ys : List Value} (hs0 : 0 < s) (hl : cs.length = (N + k) * s) (h1 : ∀ u ∈ cs, u.oneCell' = true) (h2 : ∀ p, p < N + k → cs[p * s]? = some (.int ik (if p < N then x else y))) (hy : ys[0]? = some (.int ik y)) (hy1 : ∀ u ∈ ys, u.oneCell' = true)
    (ho : w3.ownsRow B e s v' (N + k + 1) (cs ++ ys)) : Gi w3 B e s ik v' N (k + 1) x y := by
  refine ⟨cs ++ ys, .inl ho, fun u hu => ?_, fun p hp => ?_, fun _ => ho⟩
  · rcases List.mem_append.1 hu with h | h
    · exact h1 u h
    · exact hy1 u h
  · by_cases e : p < N + k
    · rw [List.getElem?_append_left (by rw [hl]; exact Nat.mul_lt_mul_of_pos_right e hs0)]
      exact h2 p e
    · obtain rfl : p = N + k := by omega
      rw [List.getElem?_append_right (by omega), hl, Nat.sub_self, hy, if_neg (by omega)]

theorem Gi.other {w w' : World} {B : Nat} {e e' : TypeId} {s : Nat} {ik : IntKind} {v : Value} {N k : Nat} {x y : Int} (h : Gi w B e s ik v N k x y) (hw : Wro B e' w w') (hne : e ≠ e') : Gi w' B e s ik v N k x y := by
  obtain ⟨cs, h1, h2, h3, h4⟩ := h
  exact ⟨cs, h1.other hw hne, h2, h3, fun hk => owns_kp (h4 hk) hw hne⟩
theorem Gi.alloc {w : World} {B : Nat} {e : TypeId} {s : Nat} {ik : IntKind} {v : Value} {N k : Nat} {x y : Int} (h : Gi w B e s ik v N k x y) (o : Obj) : Gi (w.alloc o) B e s ik v N k x y := by
  obtain ⟨cs, h1, h2, h3, h4⟩ := h
  exact ⟨cs, h1.alloc o, h2, h3, fun hk => ownsRow_kept (h4 hk) (Kept.ofBelow (below1 w o)) (fun _ _ h => h)⟩
theorem Gi.lg {W : World} {B : Nat} {e : TypeId} {s : Nat} {ik : IntKind} {v : Value} {N k : Nat} {x y : Int} (h : Gi W B e s ik v N k x y) (hk : 0 < k) : Lg W B e s ik v N k x y := by
  obtain ⟨cs, h1, h2, h3, h4⟩ := h
  exact ⟨cs, h4 hk, h2, h3⟩

/-- Rows of lists that were added to, i of each. -/
structure Ql (W6 W : World) (t1 e1 : TypeId) (s1 : Nat) (ik1 : IntKind) (t2 e2 : TypeId) (s2 : Nat) (ik2 : IntKind) (E : Nat) (n1 n2 : Nat → Nat) (lob hib : Int) (v1 v2 : Value) (l1 l2 : Nat → Value) (i : Nat) : Prop where
  hb : Below W6.heap.size W6 W
  r1 : W.ownsRow W6.heap.size t1 1 v1 i ((List.range i).map l1)
  r2 : W.ownsRow W6.heap.size t2 1 v2 i ((List.range i).map l2)
  g1 : ∀ j, j < i → Lg W W6.heap.size e1 s1 ik1 (l1 j) (n1 j) E (lob + j) (hib + j)
  g2 : ∀ j, j < i → Lg W W6.heap.size e2 s2 ik2 (l2 j) (n2 j) E (lob + j) (hib + j)

theorem ql_start (W6 : World) (t1 e1 : TypeId) (s1 : Nat) (ik1 : IntKind) (t2 e2 : TypeId) (s2 : Nat) (ik2 : IntKind) (E : Nat) (n1 n2 : Nat → Nat) (lob hib : Int) : Ql W6 W6 t1 e1 s1 ik1 t2 e2 s2 ik2 E n1 n2 lob hib (.slice none 0 0) (.slice none 0 0) (fun _ => .slice none 0 0) (fun _ => .slice none 0 0) 0 :=
  ⟨Below.refl _ _, ⟨by simp, .inl ⟨rfl, rfl⟩⟩, ⟨by simp, .inl ⟨rfl, rfl⟩⟩, fun _ h => absurd h (Nat.not_lt_zero _), fun _ h => absurd h (Nat.not_lt_zero _)⟩

theorem Ql.below {W6 W W' : World} {t1 e1 : TypeId} {s1 : Nat} {ik1 : IntKind} {t2 e2 : TypeId} {s2 : Nat} {ik2 : IntKind} {E : Nat} {n1 n2 : Nat → Nat} {lob hib : Int} {v1 v2 : Value} {l1 l2 : Nat → Value} {i : Nat} (h : Ql W6 W t1 e1 s1 ik1 t2 e2 s2 ik2 E n1 n2 lob hib v1 v2 l1 l2 i) (hb : Below W.heap.size W W') : Ql W6 W' t1 e1 s1 ik1 t2 e2 s2 ik2 E n1 n2 lob hib v1 v2 l1 l2 i :=
  ⟨below_on h.hb hb, ownsRow_kept h.r1 (Kept.ofBelow hb) (fun _ _ h => h), ownsRow_kept h.r2 (Kept.ofBelow hb) (fun _ _ h => h), fun j hj => (h.g1 j hj).below hb, fun j hj => (h.g2 j hj).below hb⟩

theorem Ql.more {W6 wb w10 w11 : World} {t1 e1 : TypeId} {s1 : Nat} {ik1 : IntKind} {t2 e2 : TypeId} {s2 : Nat} {ik2 : IntKind} {E : Nat} {n1 n2 : Nat → Nat} {lob hib : Int} {v1 v2 v1' v2' : Value} {l1 l2 : Nat → Value} {i : Nat} (h : Ql W6 wb t1 e1 s1 ik1 t2 e2 s2 ik2 E n1 n2 lob hib v1 v2 l1 l2 i) {u1 u2 : Value} {o1 o2 : Obj}
    (hd : e1 ≠ t1 ∧ e1 ≠ t2 ∧ e2 ≠ t1 ∧ e2 ≠ t2 ∧ t1 ≠ t2)
    (p1 : Lg wb W6.heap.size e1 s1 ik1 u1 (n1 i) E (lob + i) (hib + i)) (p2 : Lg wb W6.heap.size e2 s2 ik2 u2 (n2 i) E (lob + i) (hib + i))
    (h10 : w10.ownsRow W6.heap.size t1 1 v1' (i + 1) ((List.range i).map l1 ++ [u1])) (k10 : Wro W6.heap.size t1 (wb.alloc o1) w10)
    (h11 : w11.ownsRow W6.heap.size t2 1 v2' (i + 1) ((List.range i).map l2 ++ [u2])) (k11 : Wro W6.heap.size t2 (w10.alloc o2) w11) :
    Ql W6 w11 t1 e1 s1 ik1 t2 e2 s2 ik2 E n1 n2 lob hib v1' v2' (upd l1 i u1) (upd l2 i u2) (i + 1) := by
  obtain ⟨d1, d2, d3, d4, d5⟩ := hd
  have b1 := below1 wb o1
  have b2 := below1 w10 o2
  have z1 := b1.size
  have z2 := k10.size
  have z3 := b2.size
  have hbw := h.hb.size
  have q1 : ∀ {v : Value} {N E : Nat} {x y : Int}, Lg wb W6.heap.size e1 s1 ik1 v N E x y → Lg w11 W6.heap.size e1 s1 ik1 v N E x y := fun h => (((h.below b1).kp k10 d1).below b2).kp k11 d2
  have q2 : ∀ {v : Value} {N E : Nat} {x y : Int}, Lg wb W6.heap.size e2 s2 ik2 v N E x y → Lg w11 W6.heap.size e2 s2 ik2 v N E x y := fun h => (((h.below b1).kp k10 d3).below b2).kp k11 d4
  have em : ∀ (l : Nat → Value) (u : Value), (List.range (i + 1)).map (upd l i u) = (List.range i).map l ++ [u] := fun l u => by
    rw [range_snoc, upd_self]
    congr 1
    refine List.map_congr_left (fun j hj => ?_)
    rw [upd_ne _ _ (by have := List.mem_range.1 hj; omega)]
  refine ⟨?_, ?_, ?_, fun j hj => ?_, fun j hj => ?_⟩
  · have e1 := below_on h.hb b1
    have e2 := e1.trans (k10.below (by omega))
    have e3 := below_on e2 b2
    exact e3.trans (k11.below (by omega))
  · rw [em]
    exact owns_kp (ownsRow_kept h10 (Kept.ofBelow b2) (fun _ _ h => h)) k11 d5
  · rw [em]
    exact h11
  · by_cases e : j = i
    · subst e; rw [upd_self]; exact q1 p1
    · rw [upd_ne _ _ e]; exact q1 (h.g1 j (by omega))
  · by_cases e : j = i
    · subst e; rw [upd_self]; exact q2 p2
    · rw [upd_ne _ _ e]; exact q2 (h.g2 j (by omega))

/-- The rows of them, as the walk asks for them. -/
theorem Ql.hd {W6 W : World} {t1 e1 : TypeId} {s1 : Nat} {ik1 : IntKind} {t2 e2 : TypeId} {s2 : Nat} {ik2 : IntKind} {E : Nat} {n1 n2 : Nat → Nat} {lob hib : Int} {v1 v2 : Value} {l1 l2 : Nat → Value} {K : Nat} (h : Ql W6 W t1 e1 s1 ik1 t2 e2 s2 ik2 E n1 n2 lob hib v1 v2 l1 l2 K) (hK : 0 < K) (hE : 0 < E) :
    ∃ b1 c1 b2 c2, v1 = .slice (some ⟨b1, 0, none⟩) K c1 ∧ K ≤ c1 ∧ v2 = .slice (some ⟨b2, 0, none⟩) K c2 ∧ K ≤ c2 ∧ (∀ i, i < K → W.cell? ⟨b1, i, none⟩ = some (l1 i)) ∧ ∀ i, i < K → W.cell? ⟨b2, i, none⟩ = some (l2 i) := by
  have one : ∀ (l : Nat → Value), (∀ j, j < K → ∃ a n c, l j = .slice a n c) → ∀ u ∈ (List.range K).map l, u.oneCell' = true := fun l hl u hu => by
    obtain ⟨j, hj, rfl⟩ := List.mem_map.1 hu
    obtain ⟨a, n, c, e⟩ := hl j (List.mem_range.1 hj)
    rw [e]; rfl
  have hr1 := rf_of_owns h.r1 (one l1 (fun j hj => by obtain ⟨b, c, e, _⟩ := (h.g1 j hj).at_ hE; exact ⟨_, _, _, e⟩))
  have hr2 := rf_of_owns h.r2 (one l2 (fun j hj => by obtain ⟨b, c, e, _⟩ := (h.g2 j hj).at_ hE; exact ⟨_, _, _, e⟩))
  rcases h.r1.2 with ⟨_, hn⟩ | ⟨b1, c1, cur1, e1, _, _, hc1, _⟩
  · omega
  rcases h.r2.2 with ⟨_, hn⟩ | ⟨b2, c2, cur2, e2, _, _, hc2, _⟩
  · omega
  subst e1 e2
  exact ⟨b1, c1, b2, c2, rfl, hc1, rfl, hc2, fun i hi => rf_cell hr1 (by simp [hi]), fun i hi => rf_cell hr2 (by simp [hi])⟩

end Go.Proofs.Ytdnlfacfleemeaa.O
