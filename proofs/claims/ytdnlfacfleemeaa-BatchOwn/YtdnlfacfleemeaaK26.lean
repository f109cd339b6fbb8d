import Derived.Test.YtdnlfacfleemeaaK23
import Derived.Test.YtdnlfacfleemeaaK16
import Derived.Test.YtdnlfacfleemeaaK25
import Derived.ArgAppend
namespace Go.Proofs.Ytdnlfacfleemeaa
open Go.RowKit Go.Lib

theorem tMark_at (zs : List Tx2) (m : Nat) (h : m < 5) : (zs ++ tMarks 5)[zs.length + m]? = some (tMark m) := by
  rw [List.getElem?_append_right (by omega)]
  simp [tMarks, h]
theorem vMark_at (vs : List Vd) (m : Nat) (h : m < 5) : (vs ++ vMarks 5)[vs.length + m]? = some (vMark m) := by
  rw [List.getElem?_append_right (by omega)]
  simp [vMarks, h]
theorem iMark_at (xs : List Ins) (m : Nat) (h : m < 5) : (xs ++ iMarks 5)[xs.length + m]? = some (iMark m) := by
  rw [List.getElem?_append_right (by omega)]
  simp [iMarks, h]

theorem tn_round {B : Nat} {w wr : World} {tb c : Nat} {zs : List Tx2} {ts : List Txd} (h : Tn B w tb c zs ts) (hb : Below w.heap.size w wr) {n : Nat} {t : Txd} (ht : ts[n]? = some t) :
    ∃ gx zc1 gv zc2, TxC wr tb (n * 6) t (.slice (some ⟨gx, 0, none⟩) t.xs.length zc1) (.slice (some ⟨gv, 0, none⟩) t.vs.length zc2) ∧ t.xs.length + 5 ≤ zc1 ∧ t.vs.length + 5 ≤ zc2 ∧
      (∀ (m : Nat) (W : World), m < 5 → Below w.heap.size w W → W.cell? ⟨gx, (t.xs.length + m) * 8, none⟩ = some (.int .i64 (60 + (m : Int))) ∧ W.cell? ⟨gv, (t.vs.length + m) * 3, none⟩ = some (.int .i64 (50 + (m : Int)))) := by
  obtain ⟨z, hz, hzt, hc⟩ := (h.below hb).get ht
  obtain ⟨⟨gx, cux, ex1, -, -, ex4, ex5, ex6⟩, ⟨gv, cuv, ev1, -, -, ev4, ev5, ev6⟩⟩ := h.zl z hz
  obtain ⟨tz, za1, zc1, za2, zc2⟩ := z
  dsimp only [Tx2.S1, Tx2.S2] at *
  subst hzt ex1 ev1
  exact ⟨gx, zc1, gv, zc2, hc, ex4, ev4, fun m W hm hW => ⟨((ex6 _ _ (iMark_at tz.xs m hm)).same (hW.block gx (lt_of ex5))).1, ((ev6 _ _ (vMark_at tz.vs m hm)).same (hW.block gv (lt_of ev5))).1⟩⟩

theorem tn_mark {B : Nat} {w wr : World} {tb c : Nat} {zs : List Tx2} {ts : List Txd} (h : Tn B w tb c zs ts) (hb : Below w.heap.size w wr) {m : Nat} (hm : m < 5) : wr.cell? ⟨tb, (ts.length + m) * 6, none⟩ = some (.int .i64 (70 + (m : Int))) := by
  have hz : zs.length = ts.length := by rw [← h.hz, List.length_map]
  have := (h.below hb).at' (ts.length + m) (tMark m) (by rw [← hz]; exact tMark_at zs m hm)
  exact this.1

theorem five {n c : Nat} (h : n ≤ 300) (hc : n + 5 ≤ c) : wrap64 ((n : Int) + 5) = (n : Int) + 5 ∧ ((n : Int) + 5).toNat = n + 5 ∧ (n : Int) + 5 ≤ (c : Int) := by
  refine ⟨?_, by omega, by omega⟩
  unfold wrap64
  omega

theorem far {n m : Nat} (h : n ≤ 300) (hm : m < 5) : ((n + m : Nat) : Int) < (n : Int) + 5 ∧ (n : Int) ≤ ((n + m : Nat) : Int) ∧ decide (((n + m : Nat) : Int) < (n : Int)) = false ∧ (n : Int) + (m : Int) < (n : Int) + 5 ∧ wrap64 (70 + ((n : Int) + (m : Int))) = 70 + ((n : Int) + (m : Int)) ∧ wrap64 (70 + ((n : Int) + (m : Int)) - (n : Int)) = 70 + (m : Int) ∧ 0 ≤ (n : Int) + (m : Int) := by
  refine ⟨by omega, by omega, by simp; omega, by omega, ?_, ?_, by omega⟩ <;> (unfold wrap64; omega)

theorem near {n m : Nat} (h : n ≤ 300) (hm : m < 5) : wrap64 (n : Int) = n ∧ wrap64 ((n : Int) + m) = (n : Int) + m ∧ (n : Int) + m < (n : Int) + 5 ∧ 0 ≤ (n : Int) + m ∧ ((n : Int) + m).toNat = n + m ∧ wrap64 (50 + (m : Int)) = 50 + (m : Int) ∧ wrap64 (60 + (m : Int)) = 60 + (m : Int) := by
  have e : ∀ a : Int, 0 ≤ a → a ≤ 1000 → wrap64 a = a := fun a h0 h1 => by unfold wrap64; omega
  exact ⟨e _ (by omega) (by omega), e _ (by omega) (by omega), by omega, by omega, by omega, e _ (by omega) (by omega), e _ (by omega) (by omega)⟩

set_option maxRecDepth 100000 in
set_option maxHeartbeats 8000000 in
theorem stands_any (B : Nat) (f : Int) (tb c : Nat) (zs : List Tx2) (ts : List Txd) (S : Value) (w : World) (h : Tn B w tb c zs ts) (hS : TsAt 0 w S ts) (hs : Sma ts) :
    Calls Try.prog 14 #[.agg #[.int .i64 f, .slice (some ⟨tb, 0, none⟩) ts.length c], .agg #[.int .i64 f, S]] w fun e w' => e = .returned (.bool true) ∧ Below w.heap.size w w' := by
  have H0 := hid (sq_start w f (.slice (some ⟨tb, 0, none⟩) ts.length c) f S)
  have HT := hid h
  have HS := hid hS
  have hl3 : ts.length ≤ 300 := hs.1
  have HSM := hid hs
  have HE := hid (fun W (hb : Below w.heap.size w W) => bsame_any 0 0 f _ ts f _ ts W (HT.out.ts.below hb) (HS.out.below hb) (sma_L HSM.out) (by omega))
  rw [decide_eq_true ⟨rfl, rfl⟩] at HE
  have hc' : (ts.length : Int) + 5 ≤ (c : Int) := by have := h.hc; omega
  have hz : zs.length = ts.length := by rw [← h.hz, List.length_map]
  have HZ := hid hz
  obtain ⟨ao, c2, rfl, hc2, hcells⟩ := hS
  have HC := hid hcells
  have hw5 : wrap64 ((ts.length : Int) + 5) = (ts.length : Int) + 5 := by unfold wrap64; omega
  have ht5 : ((ts.length : Int) + 5).toNat = ts.length + 5 := by omega
  have HW := hid (And.intro hw5 ht5)
  clear h hs hz hcells hc2
  go_enter Try.func14, Try.ntmps14
  go_wp2_with (go_at_call 11
               refine (HE.out _ H0.out.hb).mono ?_
               rintro e w1 ⟨rfl, hb1⟩
               have H1 := hid (H0.out.below hb1)
               obtain ⟨p0, p1, -⟩ := vfacts2 H1.out.r0
               obtain ⟨q0, q1, -⟩ := vfacts2 H1.out.r1
               clear hb1)
  go_loopw [6] (fun ix wr => ∃ (n : Nat), n ≤ ts.length + 5 ∧ ix = .int .i64 n ∧ Hid (Sq w wr f (.slice (some ⟨tb, 0, none⟩) ts.length c) f (.slice ao ts.length c2))) (fun ix _ => ts.length + 5 - (intOf ix).toNat)
  case atStart => exact ⟨0, Nat.zero_le _, rfl, H1⟩
  case round =>
    clear H0 H1 HE p0 p1 q0 q1 hw5 ht5
    obtain ⟨n, hn, rfl, hP⟩ := hrel
    obtain ⟨q0, q1, -⟩ := vfacts2 hP.out.r1
    by_cases hlt : n < ts.length
    · obtain ⟨t, ht⟩ : ∃ t, ts[n]? = some t := ⟨_, List.getElem?_eq_getElem hlt⟩
      obtain ⟨gx, zc1, gv, zc2, hc, ex4, ev4, hmk⟩ := tn_round HT.out hP.out.hb ht
      obtain ⟨b, off, rfl, -, hat⟩ := HC.out (by intro e; rw [e] at hlt; simp at hlt)
      obtain ⟨S1, S2, hcb, hS1, hS2⟩ := hat n t ht
      obtain ⟨g0, g1, g2, g3, g4, g5⟩ := hcb.same (hP.out.hb.block b hcb.lt)
      obtain ⟨a1, cc1, rfl⟩ := hS1.form
      obtain ⟨a2, cc2, rfl⟩ := hS2.form
      obtain ⟨hm1, hm2⟩ := HSM.out.2 t (List.mem_of_getElem? ht)
      have HMK := hid hmk
      obtain ⟨d0, d1, d2, d3, d4, d5⟩ := hc
      have hlt1 : (n : Int) < (ts.length : Int) + 5 := by omega
      have hlt2 : (n : Int) < (ts.length : Int) := by omega
      have hge : decide ((ts.length : Int) ≤ (n : Int)) = false := by simp; omega
      obtain ⟨hx5, hx6, hx7⟩ := five hm2 ex4
      obtain ⟨hv5, hv6, hv7⟩ := five hm1 ev4
      have HM := hid (And.intro hm1 hm2)
      clear hat hcb hS1 hS2 ht hmk ex4 ev4 hm1 hm2
      go_upto_region 10 with fail
      go_quiet (fail)
      go_wp2
      go_quiet (fail)
      go_wp2
      clear d0 d1 d2 d3 d4 d5 g0 g1 g2 g3 g4 g5 hx5 hx6 hx7 hv5 hv6 hv7 q0 q1
      go_loopw [9] (fun iy wz => ∃ (m : Nat), m ≤ 5 ∧ iy = .int .i64 m ∧ Hid (Sq w wz f (.slice (some ⟨tb, 0, none⟩) ts.length c) f (.slice (some ⟨b, off, none⟩) ts.length c2))) (fun iy _ => 5 - (intOf iy).toNat)
      case atStart => exact ⟨0, Nat.zero_le _, rfl, hid ((hP.out.below (Below.drewN0 _ _)).below (Below.drewN0 _ _))⟩
      case round =>
        rename World => wz
        obtain ⟨m, hm, rfl, hQ⟩ := hrel
        by_cases h5 : m < 5
        · obtain ⟨x0, v0⟩ := HMK.out m wz h5 hQ.out.hb
          have h5' : (m : Int) < 5 := by omega
          have HA := hid (And.intro hn (And.intro hlt (And.intro hm h5)))
          clear hn hlt hm h5 hlt1 hlt2 hge hl3 hc'
          obtain ⟨j1, j2, -, -, j5, -, -⟩ := near (n := t.xs.length) (m := m) HM.out.2 HA.out.2.2.2
          obtain ⟨k1, k2, -, -, k5, -, -⟩ := near (n := t.vs.length) (m := m) HM.out.1 HA.out.2.2.2
          go_wp2
          clear j1 j2 j5 k1 k2 k5
          obtain ⟨hn, hlt, hm, h5⟩ := HA.out
          go_roundw
          case rel => first | exact ⟨m + 1, by omega, by go_num, hQ⟩ | ((repeat apply Exists.intro); exact ⟨⟨m + 1, by omega, by go_num, hQ⟩, rfl⟩)
          case measure => simp [intOf]; omega
        · obtain rfl : m = 5 := by omega
          go_wp2
          go_roundw
          case rel => first | exact ⟨n + 1, by omega, by go_num, hQ⟩ | ((repeat apply Exists.intro); exact ⟨⟨n + 1, by omega, by go_num, hQ⟩, rfl⟩)
          case measure => simp [intOf]; omega
    · obtain ⟨m, rfl⟩ : ∃ m, n = ts.length + m := ⟨n - ts.length, by omega⟩
      by_cases h5 : m < 5
      · have hk := tn_mark HT.out hP.out.hb h5
        obtain ⟨j1, j2, j3, j4, j5, j6, j7⟩ := far (n := ts.length) (m := m) hl3 h5
        clear hlt hn
        go_wp2
        go_quiet (fail)
        go_wp2
        clear j1 j2 j3 j4 j5 j6 j7
        go_roundw
        case rel => first | exact ⟨ts.length + m + 1, by omega, by go_num, hid (hP.out.below (Below.drewN0 _ _))⟩ | ((repeat apply Exists.intro); exact ⟨⟨ts.length + m + 1, by omega, by go_num, hid (hP.out.below (Below.drewN0 _ _))⟩, rfl⟩)
        case measure => simp [intOf]; omega
      · obtain rfl : m = 5 := by omega
        have hd : decide (((ts.length + 5 : Nat) : Int) < (ts.length : Int) + 5) = false := by simp
        go_wp2
        go_ret
        exact ⟨rfl, hP.out.hb⟩

end Go.Proofs.Ytdnlfacfleemeaa

namespace Go.Proofs.Ytdnlfacfleemeaa.O
open Go.RowKit Go.Lib

/-- A row that is added to: one's own from B on, or one that is full and lies below. -/
def Gr (W : World) (B : Nat) (e : TypeId) (m : Nat) (v : Value) (n : Nat) (cs : List Value) : Prop :=
  W.ownsRow B e m v n cs ∨ ∃ ao, v = .slice ao n n ∧ (ao = none → n = 0) ∧ cs.length = n * m ∧ (∀ u ∈ cs, u.oneCell' = true) ∧ ∀ b, ao = some b → ∀ j u, cs[j]? = some u → b.block < B ∧ b.block < W.heap.size ∧ W.cell? (b.add j) = some u

/-- Only rows of this type from B on may have been written. -/
def Wro (B : Nat) (e : TypeId) (w w' : World) : Prop := Kept (fun k => B ≤ k ∧ ∃ cur, w.heap[k]? = some (.cells cur e (0, 0))) w w'

theorem Wro.below {B : Nat} {e : TypeId} {w w' : World} (h : Wro B e w w') (hB : B ≤ w.heap.size) : Below B w w' := Kept.below h hB (fun k h1 h2 => by omega)

theorem owns_mono {W : World} {B B' : Nat} {e : TypeId} {m : Nat} {v : Value} {n : Nat} {xs : List Value} (h : W.ownsRow B e m v n xs) (hB : B' ≤ B) : W.ownsRow B' e m v n xs := by
  refine ⟨h.1, ?_⟩
  rcases h.2 with h0 | ⟨g, cap, cur, e1, hb, rest⟩
  · exact .inl h0
  · exact .inr ⟨g, cap, cur, e1, Nat.le_trans hB hb, rest⟩

theorem owns_ty {W : World} {B : Nat} {e : TypeId} {m : Nat} {v : Value} {n : Nat} {xs : List Value} (h : W.ownsRow B e m v n xs) {k : Nat} (hk : v.ownBlock = some k) : ∃ cur, W.heap[k]? = some (.cells cur e (0, 0)) := by
  rcases h.2 with ⟨rfl, _⟩ | ⟨g', cap, cur, rfl, _, hgg, _⟩
  · simp [Value.ownBlock] at hk
  · simp [Value.ownBlock] at hk
    subst hk
    exact ⟨cur, hgg⟩

theorem add_block (b : Addr) (j : Nat) : (b.add j).block = b.block := by unfold Addr.add; split <;> rfl

theorem Gr.other {w w' : World} {B : Nat} {e e' : TypeId} {m : Nat} {v : Value} {n : Nat} {cs : List Value} (h : Gr w B e m v n cs) (hw : Wro B e' w w') (hne : e ≠ e') : Gr w' B e m v n cs := by
  rcases h with h | ⟨ao, rfl, h0, h1, h2, h3⟩
  · refine .inl (ownsRow_kept h hw (fun k hk ⟨_, cur, hc⟩ => ?_))
    obtain ⟨cu, hcu⟩ := owns_ty h hk
    rw [hcu] at hc
    simp at hc
    exact hne hc.2
  · refine .inr ⟨ao, rfl, h0, h1, h2, fun b hb j u hu => ?_⟩
    obtain ⟨q1, q2, q3⟩ := h3 b hb j u hu
    exact ⟨q1, Nat.lt_of_lt_of_le q2 hw.size, hw.cell q3 (fun ⟨h4, _⟩ => by rw [add_block] at h4; omega)⟩

theorem Gr.alloc {w : World} {B : Nat} {e : TypeId} {m : Nat} {v : Value} {n : Nat} {cs : List Value} (h : Gr w B e m v n cs) (o : Obj) : Gr (w.alloc o) B e m v n cs := by
  have hb := below1 w o
  rcases h with h | ⟨ao, rfl, h0, h1, h2, h3⟩
  · exact .inl (ownsRow_kept h (Kept.ofBelow hb) (fun _ _ h => h))
  · refine .inr ⟨ao, rfl, h0, h1, h2, fun b hb2 j u hu => ?_⟩
    obtain ⟨q1, q2, q3⟩ := h3 b hb2 j u hu
    exact ⟨q1, Nat.lt_of_lt_of_le q2 hb.size, (Kept.ofBelow hb).cell q3 (fun h => h)⟩

theorem Gr.shape {w : World} {B : Nat} {e : TypeId} {m : Nat} {v : Value} {n : Nat} {cs : List Value} (h : Gr w B e m v n cs) : ∃ ao c, v = .slice ao n c := by
  rcases h with h | ⟨b, rfl, _⟩
  · exact own_shape h
  · exact ⟨_, _, rfl⟩

set_option maxRecDepth 100000 in
theorem wpList_append_gr (w : World) {ops : Array Oper} {rest : List Oper} {o : Oper} {a : Act} {Q : Exit → Act → World → Prop} (hgd : o.guard = none) (s x : Operand) (t e : TypeId) (z : Value) (m bytes : Nat)
    (ho : o.op = .call { callee := .builtin .append, args := #[s, x], argTypes := #[t, t] }) (ht : Try.prog.underlying t = some (.slice e)) (hinfo : (Try.prog.info? e).map (fun i => (i.zero, i.size, i.bytes)) = some (some z, m, bytes)) (hzs : z.cells.size = m) (hm : 0 < m)
    (B : Nat) (v : Value) (n : Nat) (xs : List Value) (hs : a.eval s = v) (hg : Gr w B e m v n xs)
    (q c1 : Nat) (ys : List Value) (hx : a.eval x = .slice (some ⟨q, 0, none⟩) 1 c1) (hsn : Rf w m (.slice (some ⟨q, 0, none⟩) 1 c1) 1 ys) (hl : (n + 1) * bytes ≤ 140737488355328) (hl2 : n + 1 ≤ maxLen) (hbase : B ≤ w.heap.size)
    (h : ∀ ao c w', Hid (w'.ownsRow B e m (.slice ao (n + 1) c) (n + 1) (xs ++ ys)) → Hid (Wro B e w w') → wpList Try.prog ops Q rest (a.put o.dst (.slice ao (n + 1) c)) w') : wpList Try.prog ops Q (o :: rest) a w := by
  rcases hg with hg | ⟨ao, rfl, h0, h1, h2, h3⟩
  · refine wpList_append_rf w hgd s x t e z m bytes ho ht hinfo hzs hm B v n xs hs hg _ 1 ys hx hsn hl hl2 hbase ?_
    intro ao c w' h1 h2 _
    refine h ao c w' h1 (hid ?_)
    exact (Kept.refl _ w).grown h2.out (fun k _ hk => ⟨(hg.lt k hk).1, owns_ty hg hk⟩)
  · obtain ⟨i0, hi, hz0, hz1, hz2⟩ := info_parts hinfo
    obtain ⟨hs1, hs2, hs3⟩ := hsn
    refine wpList_append_grows (P := Try.prog) w hgd s x t ho e i0 z m bytes ht hi hz0 hz1 hz2 hzs hm ao n n xs hs (fun e => ⟨h0 e, h0 e⟩) h1 (fun b hb j u hu => (h3 b hb j u hu).2.2) ⟨q, 0, none⟩ 1 c1 ys hx hs1 ?_ hs2 (by omega) hl2 hl ?_
    · intro j u hu
      rcases hs3 with ⟨e1, _⟩ | ⟨a', cap, e1, _, _, h4⟩
      · cases e1
      · injection e1 with e1 _ _
        injection e1 with e1
        subst e1
        exact h4 j u hu
    · intro v' w' h1 h2
      obtain ⟨ao, c, rfl⟩ := own_shape h1
      refine h ao c w' (hid (owns_mono h1 hbase)) (hid ?_)
      exact (Kept.refl _ w).grown h2 (fun k _ hk => by cases hk)


def upd {α : Type} (f : Nat → α) (i : Nat) (v : α) : Nat → α := fun j => if j = i then v else f j
theorem upd_self {α : Type} (f : Nat → α) (i : Nat) (v : α) : upd f i v i = v := by simp [upd]
theorem upd_ne {α : Type} (f : Nat → α) {i j : Nat} (v : α) (h : j ≠ i) : upd f i v j = f j := by simp [upd, h]

/-- A list of n elements of s cells in a block of its own; m: the number that stands first in each. -/
def Li (W : World) (B : Nat) (e : TypeId) (s : Nat) (ik : IntKind) (ao : Option Addr) (n : Nat) (m : Nat → Int) : Prop :=
  n ≠ 0 → ∃ b cs, ao = some ⟨b, 0, none⟩ ∧ B ≤ b ∧ (∃ ar, W.heap[b]? = some (.cells ar e (0, 0))) ∧ Rf W s (.slice (some ⟨b, 0, none⟩) n n) n cs ∧ ∀ j, j < n → cs[j * s]? = some (.int ik (m j))

/-- K of them, none in another's block. -/
structure Fam (W : World) (B : Nat) (e : TypeId) (s : Nat) (ik : IntKind) (K : Nat) (A : Nat → Option Addr) (n : Nat → Nat) (m : Nat → Nat → Int) : Prop where
  li : ∀ i, i < K → Li W B e s ik (A i) (n i) (m i)
  ap : ∀ i j, i < j → j < K → n i ≠ 0 → n j ≠ 0 → A i ≠ A j

theorem Li.keep {W W' : World} {B : Nat} {e : TypeId} {s : Nat} {ik : IntKind} {ao : Option Addr} {n : Nat} {m : Nat → Int} {S : Nat → Prop} (h : Li W B e s ik ao n m) (hk : Kept S W W') (hs : ∀ b, ao = some ⟨b, 0, none⟩ → B ≤ b → (∃ ar, W.heap[b]? = some (.cells ar e (0, 0))) → ¬ S b) : Li W' B e s ik ao n m := fun hn => by
  obtain ⟨b, cs, h1, h2, ⟨ar, h3⟩, h4, h5⟩ := h hn
  have hS := hs b h1 h2 ⟨ar, h3⟩
  exact ⟨b, cs, h1, h2, ⟨ar, (hk.block b (lt_of h3) hS).trans h3⟩, h4.kept hk (fun k hk2 => by simp [Value.ownBlock] at hk2; rw [← hk2]; exact hS), h5⟩

theorem Fam.keep {W W' : World} {B : Nat} {e : TypeId} {s : Nat} {ik : IntKind} {K : Nat} {A : Nat → Option Addr} {n : Nat → Nat} {m : Nat → Nat → Int} {S : Nat → Prop} (h : Fam W B e s ik K A n m) (hk : Kept S W W') (hs : ∀ b, B ≤ b → (∃ ar, W.heap[b]? = some (.cells ar e (0, 0))) → ¬ S b) : Fam W' B e s ik K A n m :=
  ⟨fun i hi => (h.li i hi).keep hk (fun b _ h2 h3 => hs b h2 h3), h.ap⟩
theorem Fam.wro {W W' : World} {B B' : Nat} {e e' : TypeId} {s : Nat} {ik : IntKind} {K : Nat} {A : Nat → Option Addr} {n : Nat → Nat} {m : Nat → Nat → Int} (h : Fam W B e s ik K A n m) (hk : Wro B' e' W W') (hne : e ≠ e') : Fam W' B e s ik K A n m :=
  h.keep hk (fun b _ ⟨ar, ha⟩ ⟨_, cur, hc⟩ => by rw [ha] at hc; simp at hc; exact hne hc.2)
theorem Fam.below {W W' : World} {B : Nat} {e : TypeId} {s : Nat} {ik : IntKind} {K : Nat} {A : Nat → Option Addr} {n : Nat → Nat} {m : Nat → Nat → Int} (h : Fam W B e s ik K A n m) (hb : Below W.heap.size W W') : Fam W' B e s ik K A n m :=
  h.keep (Kept.ofBelow hb) (fun _ _ _ h => h)

theorem rf_set {W : World} {s b n : Nat} {cs : List Value} (h : Rf W s (.slice (some ⟨b, 0, none⟩) n n) n cs) {q : Nat} (hq : q < cs.length) {u : Value} (hu : u.oneCell' = true) : Rf (W.setCell ⟨b, q, none⟩ u) s (.slice (some ⟨b, 0, none⟩) n n) n (cs.set q u) := by
  obtain ⟨h1, h2, h3⟩ := h
  refine ⟨by rw [List.length_set]; exact h1, fun v hv => ?_, ?_⟩
  · rcases List.mem_or_eq_of_mem_set hv with h | h
    · exact h2 v h
    · rw [h]; exact hu
  · rcases h3 with ⟨e, _⟩ | ⟨a, cap, e, h4, h5, h6⟩
    · cases e
    · injection e with e1 _ e3
      injection e1 with e1
      subst e1 e3
      refine .inr ⟨_, _, rfl, h4, h5, fun j v hj => ?_⟩
      rw [add_lit, Nat.zero_add]
      by_cases e : j = q
      · subst e
        rw [List.getElem?_set_self hq] at hj
        injection hj with hj
        subst hj
        have := h6 j _ (List.getElem?_eq_getElem hq)
        rw [add_lit, Nat.zero_add] at this
        exact cs_same this
      · rw [List.getElem?_set_ne (fun e2 => e e2.symm)] at hj
        have := h6 j v hj
        rw [add_lit, Nat.zero_add] at this
        rw [cs_off (fun e2 => e e2.symm)]
        exact this

theorem rf_cell {W : World} {s b n c : Nat} {cs : List Value} (h : Rf W s (.slice (some ⟨b, 0, none⟩) n c) n cs) {j : Nat} {v : Value} (hj : cs[j]? = some v) : W.cell? ⟨b, j, none⟩ = some v := by
  obtain ⟨h1, h2, h3⟩ := h
  rcases h3 with ⟨e, _⟩ | ⟨a, cap, e, h4, h5, h6⟩
  · cases e
  · injection e with e1 _ e3
    injection e1 with e1
    subst e1
    have := h6 j v hj
    rwa [add_lit, Nat.zero_add] at this

/-- The first number of an element is written. -/
theorem Fam.set {W : World} {B : Nat} {e : TypeId} {s : Nat} {ik : IntKind} {K : Nat} {A : Nat → Option Addr} {n : Nat → Nat} {m : Nat → Nat → Int} (h : Fam W B e s ik K A n m) (hs0 : 0 < s) {i k : Nat} (hi : i < K) (hk : k < n i) (x : Int) :
    ∃ b, A i = some ⟨b, 0, none⟩ ∧ W.cell? ⟨b, k * s, none⟩ = some (.int ik (m i k)) ∧ (∀ o, W.frozen? ⟨b, o, none⟩ = false) ∧ Fam (W.setCell ⟨b, k * s, none⟩ (.int ik x)) B e s ik K A n (upd m i (upd (m i) k x)) ∧ Wro B e W (W.setCell ⟨b, k * s, none⟩ (.int ik x)) := by
  obtain ⟨b, cs, h1, h2, ⟨ar, h3⟩, h4, h5⟩ := h.li i hi (by omega)
  have hlen : cs.length = n i * s := h4.1
  have hq : k * s < cs.length := by
    rw [hlen]
    exact Nat.mul_lt_mul_of_pos_right hk hs0
  have kk : Kept (fun j => j = b) W (W.setCell ⟨b, k * s, none⟩ (.int ik x)) := (Kept.refl (fun j => j = b) W).setCell (p := ⟨b, k * s, none⟩) (fun _ => rfl) _
  refine ⟨b, h1, rf_cell h4 (h5 k hk), fun o => free_of_block h3, ⟨fun j hj => ?_, h.ap⟩, kk.mono (fun j _ hj => by subst hj; exact ⟨h2, ar, h3⟩)⟩
  by_cases e : j = i
  · subst e
    rw [upd_self]
    intro _
    refine ⟨b, cs.set (k * s) (.int ik x), h1, h2, ?_, rf_set h4 hq rfl, fun p hp => ?_⟩
    · simp [World.setCell, Array.getElem?_modify, h3]
    · by_cases e2 : p = k
      · subst e2
        rw [List.getElem?_set_self hq, upd_self]
      · rw [List.getElem?_set_ne (fun e3 => e2 (Nat.eq_of_mul_eq_mul_right hs0 e3.symm)), upd_ne _ _ e2]
        exact h5 p hp
  · rw [upd_ne _ _ e]
    by_cases hn : n j = 0
    · exact fun h0 => absurd hn h0
    refine (h.li j hj).keep kk (fun b' hb' _ _ e3 => ?_)
    subst e3
    rcases Nat.lt_or_gt_of_ne e with h6 | h6
    · exact h.ap j i h6 hi hn (by omega) (hb'.trans h1.symm)
    · exact h.ap i j h6 hj (by omega) hn (h1.trans hb'.symm)

theorem Fam.cell {W : World} {B : Nat} {e : TypeId} {s : Nat} {ik : IntKind} {K : Nat} {A : Nat → Option Addr} {n : Nat → Nat} {m : Nat → Nat → Int} (h : Fam W B e s ik K A n m) {i k : Nat} (hi : i < K) (hk : k < n i) : ∃ b, A i = some ⟨b, 0, none⟩ ∧ W.cell? ⟨b, k * s, none⟩ = some (.int ik (m i k)) := by
  obtain ⟨b, cs, h1, h2, _, h4, h5⟩ := h.li i hi (by omega)
  exact ⟨b, h1, rf_cell h4 (h5 k hk)⟩

/-- A row of headers: what stands at each place. -/
structure Hd (W : World) (e : TypeId) (b s c K : Nat) (F : Nat → Value) : Prop where
  ty : ∃ ar, W.heap[b]? = some (.cells ar e (0, 0))
  at_ : ∀ i, i < K → W.cell? ⟨b, i * s + c, none⟩ = some (F i)

theorem Hd.keep {W W' : World} {e : TypeId} {b s c K : Nat} {F : Nat → Value} {S : Nat → Prop} (h : Hd W e b s c K F) (hk : Kept S W W') (hs : (∃ ar, W.heap[b]? = some (.cells ar e (0, 0))) → ¬ S b) : Hd W' e b s c K F := by
  have hS := hs h.ty
  obtain ⟨ar, ha⟩ := h.ty
  have hb := hk.block b (lt_of ha) hS
  exact ⟨⟨ar, hb.trans ha⟩, fun i hi => (World.cell?_of_block (a := ⟨b, _, none⟩) hb).trans (h.at_ i hi)⟩
theorem Hd.wro {W W' : World} {B' : Nat} {e e' : TypeId} {b s c K : Nat} {F : Nat → Value} (h : Hd W e b s c K F) (hk : Wro B' e' W W') (hne : e ≠ e') : Hd W' e b s c K F :=
  h.keep hk (fun ⟨ar, ha⟩ ⟨_, cur, hc⟩ => by rw [ha] at hc; simp at hc; exact hne hc.2)
theorem Hd.below {W W' : World} {e : TypeId} {b s c K : Nat} {F : Nat → Value} (h : Hd W e b s c K F) (hb : Below W.heap.size W W') : Hd W' e b s c K F := h.keep (Kept.ofBelow hb) (fun _ h => h)

theorem own_hd {W : World} {B : Nat} {e : TypeId} {v : Value} {K : Nat} {F : Nat → Value} (h : W.ownsRow B e 1 v K ((List.range K).map F)) (h1 : ∀ i, (F i).oneCell' = true) (h0 : 0 < K) : ∃ b c, v = .slice (some ⟨b, 0, none⟩) K c ∧ K ≤ c ∧ Hd W e b 1 0 K F ∧ B ≤ b := by
  have hr := rf_of_owns h (fun u hu => by obtain ⟨i, _, rfl⟩ := List.mem_map.1 hu; exact h1 i)
  rcases h.2 with ⟨rfl, hn⟩ | ⟨g, cap, cur, rfl, hb, hg, hc, _⟩
  · omega
  · refine ⟨g, cap, rfl, hc, ⟨⟨_, hg⟩, fun i hi => ?_⟩, hb⟩
    rw [Nat.mul_one, Nat.add_zero]
    exact rf_cell hr (by simp [hi])

theorem range_snoc {α : Type} (F : Nat → α) (K : Nat) : (List.range (K + 1)).map F = (List.range K).map F ++ [F K] := by
  rw [List.range_succ, List.map_append]; rfl

theorem owns_kp {W W' : World} {B : Nat} {e : TypeId} {m : Nat} {v : Value} {n : Nat} {xs : List Value} (h : W.ownsRow B e m v n xs) {B' : Nat} {e' : TypeId} (hk : Wro B' e' W W') (hne : e ≠ e') : W'.ownsRow B e m v n xs :=
  ownsRow_kept h hk (fun k hk2 ⟨_, cur, hc⟩ => by
    obtain ⟨cu, hcu⟩ := owns_ty h hk2
    rw [hcu] at hc
    simp at hc
    exact hne hc.2)

/-- An append to a row of one's own writes only that row. -/
theorem grown_wro {W W' : World} {B : Nat} {e : TypeId} {m : Nat} {v : Value} {n : Nat} {xs : List Value} (h : W.ownsRow B e m v n xs) (hg : W.grownBy W' v.ownBlock) : Wro B e W W' :=
  (Kept.refl _ W).grown hg (fun k _ hk => ⟨(h.lt k hk).1, owns_ty h hk⟩)

theorem rf_one (w : World) (t : TypeId) (v : Value) (h1 : v.oneCell' = true) : Rf (w.alloc (.cells #[v] t)) 1 (.slice (some ⟨w.heap.size, 0, none⟩) 1 1) 1 [v] := by
  have h : (w.alloc (.cells #[v] t)).ownsRow 0 t 1 (.slice (some ⟨w.heap.size, 0, none⟩) 1 1) 1 [v] := ⟨by simp, .inr ⟨w.heap.size, 1, _, rfl, Nat.zero_le _, heap_alloc_new w _, Nat.le_refl _, by decide, by simp, by simp⟩⟩
  exact rf_of_owns h (by intro u hu; simp at hu; rw [hu]; exact h1)

end Go.Proofs.Ytdnlfacfleemeaa.O

namespace Go.Proofs.Ytdnlfacfleemeaa.O
open Go.RowKit Go.Lib

abbrev sx (b n : Nat) : Value := .slice (some ⟨b, 0, none⟩) n n

/-- Lists in blocks of their own, with what they hold. -/
def Lc (W : World) (l h : Nat) (ao : Option Addr) (xs : List Ins) : Prop := xs.length ≠ 0 → ∃ b cs, ao = some ⟨b, 0, none⟩ ∧ l ≤ b ∧ b < h ∧ W.heap[b]? = some (.cells cs 52 (0, 0)) ∧ ∀ j x, xs[j]? = some x → InsAt W b (j * 8) x
def Lv (W : World) (l h : Nat) (ao : Option Addr) (vs : List Vd) : Prop := vs.length ≠ 0 → ∃ b cs, ao = some ⟨b, 0, none⟩ ∧ l ≤ b ∧ b < h ∧ W.heap[b]? = some (.cells cs 50 (0, 0)) ∧ ∀ j x, vs[j]? = some x → VdAt W b (j * 3) x

/-- A batch that was decoded. -/
structure Bt (W : World) (T0 T1 x : Nat) (ts : List Txd) (A1 A2 : Nat → Option Addr) : Prop where
  lx : T0 ≤ x ∧ x < T1
  ty : ∃ cs, W.heap[x]? = some (.cells cs 30 (0, 0))
  at_ : ∀ (k : Nat) (t : Txd), ts[k]? = some t → TxC W x (k * 6) t (.slice (A1 k) t.xs.length t.xs.length) (.slice (A2 k) t.vs.length t.vs.length)
  c1 : ∀ (k : Nat) (t : Txd), ts[k]? = some t → Lc W T0 T1 (A1 k) t.xs
  c2 : ∀ (k : Nat) (t : Txd), ts[k]? = some t → Lv W T0 T1 (A2 k) t.vs
  ap : ∀ (i j : Nat) (t u : Txd), i < j → ts[i]? = some t → ts[j]? = some u → (t.xs.length ≠ 0 → u.xs.length ≠ 0 → A1 i ≠ A1 j) ∧ (t.vs.length ≠ 0 → u.vs.length ≠ 0 → A2 i ≠ A2 j)

theorem bt_of {W : World} {B : Nat} {S : Value} {ts : List Txd} (h : TsAt B W S ts) (hs : Str B W S ts) : ∃ x A1 A2, S = sx x ts.length ∧ Bt W B W.heap.size x ts A1 A2 := by
  obtain ⟨tb, rfl, hB, ⟨cs, hc⟩, A1, A2, lo, l1, l2, l3⟩ := hs
  obtain ⟨ao, cap, e, _, hat⟩ := h
  injection e with e1 _ _
  subst e1
  have at' : ∀ (k : Nat) (t : Txd), ts[k]? = some t → ∃ S1 S2, TxC W tb (k * 6) t S1 S2 ∧ CdAt B W S1 t.xs ∧ VsAt B W S2 t.vs := fun k t ht => by
    obtain ⟨b, off, e2, _, h5⟩ := hat (by intro e; rw [e] at ht; simp at ht)
    injection e2 with e2
    injection e2 with e2 e3
    subst e2 e3
    have := h5 k t ht
    rwa [Nat.zero_add] at this
  have mono : ∀ d k, k + d ≤ ts.length → lo k ≤ lo (k + d) := fun d => by
    induction d with
    | zero => intro k _; exact Nat.le_refl _
    | succ d ih => intro k hk; exact Nat.le_trans (ih k (by omega)) (l2 (k + d) (by omega))
  refine ⟨tb, A1, A2, rfl, ⟨⟨hB, lt_of hc⟩, ⟨cs, hc⟩, fun k t ht => ?_, fun k t ht hn => ?_, fun k t ht hn => ?_, fun i j t u hij ht hu => ?_⟩⟩
  · obtain ⟨S1, S2, h1, -, -⟩ := at' k t ht
    have q := l3 k t ht
    have e3 : S1 = .slice (A1 k) t.xs.length t.xs.length := by have := h1.c3.symm.trans q.c3; injection this
    have e5 : S2 = .slice (A2 k) t.vs.length t.vs.length := by have := h1.c5.symm.trans q.c5; injection this
    rw [← e3, ← e5]
    exact h1
  · obtain ⟨S1, S2, h1, h2, -⟩ := at' k t ht
    have q := l3 k t ht
    have e3 : S1 = .slice (A1 k) t.xs.length t.xs.length := by have := h1.c3.symm.trans q.c3; injection this
    obtain ⟨b, cs', g1, g2, g3, g4⟩ := q.k1 hn
    have hk := (List.getElem?_eq_some_iff.1 ht).1
    have := l1 k (by omega)
    have := l1 (k + 1) (by omega)
    refine ⟨b, cs', g1, by omega, by omega, g4, ?_⟩
    subst e3
    obtain ⟨ao, cap, e, _, hh⟩ := h2
    obtain ⟨b2, off, e4, _, h5⟩ := hh (by intro e; rw [e] at hn; exact hn rfl)
    injection e with e1 _ _
    rw [← e1, g1] at e4
    injection e4 with e4
    injection e4 with e4 e5
    subst e4 e5
    intro j x hx
    have := h5 j x hx
    rwa [Nat.zero_add] at this
  · obtain ⟨S1, S2, h1, -, h2⟩ := at' k t ht
    have q := l3 k t ht
    have e3 : S2 = .slice (A2 k) t.vs.length t.vs.length := by have := h1.c5.symm.trans q.c5; injection this
    obtain ⟨b, cs', g1, g2, g3, g4⟩ := q.k2 hn
    have hk := (List.getElem?_eq_some_iff.1 ht).1
    have := l1 k (by omega)
    have := l1 (k + 1) (by omega)
    refine ⟨b, cs', g1, by omega, by omega, g4, ?_⟩
    subst e3
    obtain ⟨ao, cap, e, _, hh⟩ := h2
    obtain ⟨b2, off, e4, _, h5⟩ := hh (by intro e; rw [e] at hn; exact hn rfl)
    injection e with e1 _ _
    rw [← e1, g1] at e4
    injection e4 with e4
    injection e4 with e4 e5
    subst e4 e5
    intro j x hx
    have := h5 j x hx
    rwa [Nat.zero_add] at this
  · have hi := (List.getElem?_eq_some_iff.1 ht).1
    have hj := (List.getElem?_eq_some_iff.1 hu).1
    have hm := mono (j - (i + 1)) (i + 1) (by omega)
    rw [show i + 1 + (j - (i + 1)) = j by omega] at hm
    refine ⟨fun n1 n2 e => ?_, fun n1 n2 e => ?_⟩
    · obtain ⟨b, _, g1, g2, g3, _⟩ := (l3 i t ht).k1 n1
      obtain ⟨b', _, g1', g2', g3', _⟩ := (l3 j u hu).k1 n2
      rw [g1, g1'] at e
      injection e with e
      injection e with e
      omega
    · obtain ⟨b, _, g1, g2, g3, _⟩ := (l3 i t ht).k2 n1
      obtain ⟨b', _, g1', g2', g3', _⟩ := (l3 j u hu).k2 n2
      rw [g1, g1'] at e
      injection e with e
      injection e with e
      omega

theorem Bt.keep {W W' : World} {T0 T1 x : Nat} {ts : List Txd} {A1 A2 : Nat → Option Addr} {S : Nat → Prop} (h : Bt W T0 T1 x ts A1 A2) (hk : Kept S W W') (hs : ∀ b cs e, T0 ≤ b → b < T1 → W.heap[b]? = some (.cells cs e (0, 0)) → (e = 30 ∨ e = 50 ∨ e = 52) → ¬ S b) : Bt W' T0 T1 x ts A1 A2 := by
  obtain ⟨cs, hc⟩ := h.ty
  have hx := hk.block x (lt_of hc) (hs x cs 30 h.lx.1 h.lx.2 hc (.inl rfl))
  refine ⟨h.lx, ⟨cs, hx.trans hc⟩, fun k t ht => (h.at_ k t ht).same hx, fun k t ht hn => ?_, fun k t ht hn => ?_, h.ap⟩
  · obtain ⟨b, cs', g1, g2, g3, g4, g5⟩ := h.c1 k t ht hn
    have hb := hk.block b (lt_of g4) (hs b cs' 52 g2 g3 g4 (.inr (.inr rfl)))
    exact ⟨b, cs', g1, g2, g3, hb.trans g4, fun j x hx => (g5 j x hx).same hb⟩
  · obtain ⟨b, cs', g1, g2, g3, g4, g5⟩ := h.c2 k t ht hn
    have hb := hk.block b (lt_of g4) (hs b cs' 50 g2 g3 g4 (.inr (.inl rfl)))
    exact ⟨b, cs', g1, g2, g3, hb.trans g4, fun j x hx => (g5 j x hx).same hb⟩

theorem Bt.below {W W' : World} {T0 T1 x : Nat} {ts : List Txd} {A1 A2 : Nat → Option Addr} (h : Bt W T0 T1 x ts A1 A2) (hb : Below W.heap.size W W') : Bt W' T0 T1 x ts A1 A2 := h.keep (Kept.ofBelow hb) (fun _ _ _ _ _ _ _ h => h)
theorem Bt.wro {W W' : World} {T0 T1 x : Nat} {ts : List Txd} {A1 A2 : Nat → Option Addr} {B : Nat} {e : TypeId} (h : Bt W T0 T1 x ts A1 A2) (hw : Wro B e W W') (hne : e ≠ 30 ∧ e ≠ 50 ∧ e ≠ 52) : Bt W' T0 T1 x ts A1 A2 := h.keep hw (fun b cs e' _ _ hc he ⟨_, cur, hcur⟩ => by
  rw [hc] at hcur
  simp at hcur
  have := hcur.2
  subst this
  rcases he with e | e | e
  · exact hne.1 e
  · exact hne.2.1 e
  · exact hne.2.2 e)
theorem Bt.widen {W : World} {T0 T1 S0 S1 x : Nat} {ts : List Txd} {A1 A2 : Nat → Option Addr} (h : Bt W T0 T1 x ts A1 A2) (h0 : S0 ≤ T0) (h1 : T1 ≤ S1) : Bt W S0 S1 x ts A1 A2 := by
  refine ⟨⟨by have := h.lx; omega, by have := h.lx; omega⟩, h.ty, h.at_, fun k t ht hn => ?_, fun k t ht hn => ?_, h.ap⟩
  · obtain ⟨b, cs', g1, g2, g3, g4, g5⟩ := h.c1 k t ht hn
    exact ⟨b, cs', g1, by omega, by omega, g4, g5⟩
  · obtain ⟨b, cs', g1, g2, g3, g4, g5⟩ := h.c2 k t ht hn
    exact ⟨b, cs', g1, by omega, by omega, g4, g5⟩

theorem Bt.ts {W : World} {T0 T1 x : Nat} {ts : List Txd} {A1 A2 : Nat → Option Addr} (h : Bt W T0 T1 x ts A1 A2) : TsAt 0 W (sx x ts.length) ts := by
  refine ⟨_, _, rfl, Nat.le_refl _, fun _ => ⟨x, 0, rfl, Nat.zero_le _, fun j t ht => ?_⟩⟩
  rw [Nat.zero_add]
  refine ⟨_, _, h.at_ j t ht, ⟨_, _, rfl, Nat.le_refl _, fun hn => ?_⟩, ⟨_, _, rfl, Nat.le_refl _, fun hn => ?_⟩⟩
  · obtain ⟨b, cs', g1, g2, g3, g4, g5⟩ := h.c1 j t ht (fun e => hn (List.length_eq_zero_iff.1 e))
    exact ⟨b, 0, g1, Nat.zero_le _, fun k x hx => by rw [Nat.zero_add]; exact g5 k x hx⟩
  · obtain ⟨b, cs', g1, g2, g3, g4, g5⟩ := h.c2 j t ht (fun e => hn (List.length_eq_zero_iff.1 e))
    exact ⟨b, 0, g1, Nat.zero_le _, fun k x hx => by rw [Nat.zero_add]; exact g5 k x hx⟩

theorem Own.wro {W W' : World} {g : Nat} {bs : List Int} {B : Nat} {e : TypeId} (h : Own W g bs) (hw : Wro B e W W') (hne : e ≠ 5) : Own W' g bs := by
  refine (hw.block g (lt_of h) (fun ⟨_, cur, hc⟩ => ?_)).trans h
  unfold Own at h
  rw [h] at hc
  simp at hc
  exact hne hc.2.symm

/-- Rows and batches that are kept, i of each. -/
structure Q1 (w1 W : World) (v7 v8 : Value) (f : Int) (bs : List Int) (ts : List Txd) (g x T : Nat → Nat) (A1 A2 : Nat → Nat → Option Addr) (i : Nat) : Prop where
  hb : Below w1.heap.size w1 W
  r7 : W.ownsRow w1.heap.size 34 1 v7 i ((List.range i).map (fun j => sx (g j) bs.length))
  r8 : W.ownsRow w1.heap.size 24 2 v8 i ((List.range i).flatMap (fun j => [.int .i64 f, sx (x j) ts.length]))
  t0 : w1.heap.size ≤ T 0
  tm : ∀ j, j < i → T j ≤ T (j + 1)
  tl : T i ≤ W.heap.size
  ro : ∀ j, j < i → Own W (g j) bs ∧ T j ≤ g j ∧ g j < T (j + 1)
  tx : ∀ j, j < i → Bt W (T j) (T (j + 1)) (x j) ts (A1 j) (A2 j)

theorem q1_start (w1 : World) (f : Int) (bs : List Int) (ts : List Txd) : Q1 w1 w1 (.slice none 0 0) (.slice none 0 0) f bs ts (fun _ => 0) (fun _ => 0) (fun _ => w1.heap.size) (fun _ _ => none) (fun _ _ => none) 0 :=
  ⟨Below.refl _ _, ⟨by simp, .inl ⟨rfl, rfl⟩⟩, ⟨by simp, .inl ⟨rfl, rfl⟩⟩, Nat.le_refl _, fun _ h => absurd h (Nat.not_lt_zero _), Nat.le_refl _, fun _ h => absurd h (Nat.not_lt_zero _), fun _ h => absurd h (Nat.not_lt_zero _)⟩

theorem Q1.below {w1 W W' : World} {v7 v8 : Value} {f : Int} {bs : List Int} {ts : List Txd} {g x T : Nat → Nat} {A1 A2 : Nat → Nat → Option Addr} {i : Nat} (h : Q1 w1 W v7 v8 f bs ts g x T A1 A2 i) (hb : Below W.heap.size W W') : Q1 w1 W' v7 v8 f bs ts g x T A1 A2 i :=
  ⟨below_on h.hb hb, ownsRow_kept h.r7 (Kept.ofBelow hb) (fun _ _ h => h), ownsRow_kept h.r8 (Kept.ofBelow hb) (fun _ _ h => h), h.t0, h.tm, Nat.le_trans h.tl hb.size, fun j hj => ⟨blk_of hb (h.ro j hj).1 (lt_of (h.ro j hj).1), (h.ro j hj).2⟩, fun j hj => (h.tx j hj).below hb⟩

theorem Q1.more {w1 W9 w10 w11 : World} {v7 v8 v7' v8' : Value} {f : Int} {bs : List Int} {ts : List Txd} {g x T : Nat → Nat} {A1 A2 : Nat → Nat → Option Addr} {i : Nat} (h : Q1 w1 W9 v7 v8 f bs ts g x T A1 A2 i) {gb xb : Nat} {a1 a2 : Nat → Option Addr} {o1 o2 : Obj}
    (ho : Own W9 gb bs) (hg : T i ≤ gb) (hx : Bt W9 (T i) W9.heap.size xb ts a1 a2)
    (h10 : w10.ownsRow w1.heap.size 34 1 v7' (i + 1) ((List.range i).map (fun j => sx (g j) bs.length) ++ [sx gb bs.length])) (k10 : Wro w1.heap.size 34 (W9.alloc o1) w10)
    (h11 : w11.ownsRow w1.heap.size 24 2 v8' (i + 1) ((List.range i).flatMap (fun j => [.int .i64 f, sx (x j) ts.length]) ++ [.int .i64 f, sx xb ts.length])) (k11 : Wro w1.heap.size 24 (w10.alloc o2) w11) :
    Q1 w1 w11 v7' v8' f bs ts (upd g i gb) (upd x i xb) (upd T (i + 1) W9.heap.size) (upd A1 i a1) (upd A2 i a2) (i + 1) := by
  have b1 := below1 W9 o1
  have b2 := below1 w10 o2
  have own5 : ∀ {G : Nat}, Own W9 G bs → Own w11 G bs := fun h => Own.wro (blk_of b2 (Own.wro (blk_of b1 h (lt_of h)) k10 (by decide)) (lt_of (Own.wro (blk_of b1 h (lt_of h)) k10 (by decide)))) k11 (by decide)
  have bt5 : ∀ {t0 t1 X : Nat} {c1 c2 : Nat → Option Addr}, Bt W9 t0 t1 X ts c1 c2 → Bt w11 t0 t1 X ts c1 c2 := fun h => (((h.below b1).wro k10 (by decide)).below b2).wro k11 (by decide)
  have z1 := b1.size
  have z2 := k10.size
  have z3 := b2.size
  have z4 := k11.size
  have hbw := h.hb.size
  have hbe : Below w1.heap.size w1 w11 := by
    have e1 := below_on h.hb b1
    have e2 := e1.trans (k10.below (by omega))
    have e3 := below_on e2 b2
    exact e3.trans (k11.below (by omega))
  refine ⟨hbe, ?_, ?_, ?_, fun j hj => ?_, ?_, fun j hj => ?_, fun j hj => ?_⟩
  · have e : (List.range (i + 1)).map (fun j => sx (upd g i gb j) bs.length) = (List.range i).map (fun j => sx (g j) bs.length) ++ [sx gb bs.length] := by
      rw [range_snoc, upd_self]
      congr 1
      refine List.map_congr_left (fun j hj => ?_)
      rw [upd_ne _ _ (by have := List.mem_range.1 hj; omega)]
    rw [e]
    exact owns_kp (ownsRow_kept h10 (Kept.ofBelow b2) (fun _ _ h => h)) k11 (by decide)
  · have e : (List.range (i + 1)).flatMap (fun j => [Value.int .i64 f, sx (upd x i xb j) ts.length]) = (List.range i).flatMap (fun j => [Value.int .i64 f, sx (x j) ts.length]) ++ [.int .i64 f, sx xb ts.length] := by
      rw [List.range_succ, List.flatMap_append]
      congr 1
      · rw [List.flatMap_def, List.flatMap_def]
        congr 1
        refine List.map_congr_left (fun j hj => ?_)
        rw [upd_ne _ _ (by have := List.mem_range.1 hj; omega)]
      · simp [upd_self]
    rw [e]
    exact h11
  · rw [upd_ne _ _ (by omega)]; exact h.t0
  · by_cases e : j = i
    · subst e
      rw [upd_ne _ _ (by omega), upd_self]
      exact h.tl
    · rw [upd_ne _ _ (by omega), upd_ne _ _ (by omega)]
      exact h.tm j (by omega)
  · rw [upd_self]; omega
  · by_cases e : j = i
    · subst e
      rw [upd_self, upd_self, upd_ne _ _ (by omega)]
      exact ⟨own5 ho, hg, lt_of ho⟩
    · rw [upd_ne _ _ e, upd_ne _ _ (by omega), upd_ne _ _ (by omega)]
      exact ⟨own5 (h.ro j (by omega)).1, (h.ro j (by omega)).2⟩
  · by_cases e : j = i
    · subst e
      rw [upd_self, upd_self, upd_self, upd_self, upd_ne _ _ (by omega)]
      exact bt5 hx
    · rw [upd_ne _ _ e, upd_ne _ _ (by omega), upd_ne _ _ (by omega), upd_ne _ _ e, upd_ne _ _ e]
      exact bt5 (h.tx j (by omega))

end Go.Proofs.Ytdnlfacfleemeaa.O
