import Derived.Test.YthcoigbkdbkojabGreatK41
import Derived.ArgAppend
import Derived.Laws.OwnMore
set_option maxRecDepth 100000
namespace Go.Proofs.YthcoigbkdbkojabGreat
open Go.RowKit Go.MapKept
open V (hp_new hp_lt hp_below hp_alloc kl)
def atK (T : KV) : Nat → ByteArray
  | 0 => emp
  | k + 1 => (T[k]?.map Prod.fst).getD emp
theorem atK_succ {T : KV} {k : Nat} (h : k < T.length) : atK T (k + 1) = T[k].1 := by
  show (T[k]?.map Prod.fst).getD emp = _
  rw [List.getElem?_eq_getElem h]
  rfl
theorem kl_emp_of {k : ByteArray} (h : isKeyB k = true) : kl emp k = true := by
  cases e : kl emp k
  · exact absurd (V.kl_tri (kl_emp k) e).symm (Ne.symm (isKey_ne h))
  · rfl
theorem nxt_at {T : KV} (hT : SOk T) {k : Nat} (hk : k ≤ T.length) : nxt T (atK T k) = T[k]? := by
  have hlo : ∀ x ∈ T.take k, kl (atK T k) x.1 = false := by
    intro x hx
    obtain ⟨j, hj, e⟩ := List.mem_take_iff_getElem.1 hx
    cases k with
    | zero => omega
    | succ k =>
      have hk' : k < T.length := hk
      rw [atK_succ hk', ← e]
      by_cases e2 : j = k
      · subst e2; exact V.kl_irrefl _
      · exact V.kl_asymm ((List.pairwise_iff_getElem.1 hT.asc) j k (by omega) hk' (by omega))
  have hhi : ∀ (h : k < T.length), kl (atK T k) T[k].1 = true := by
    intro h
    cases k with
    | zero => exact kl_emp_of (hT.el _ (List.getElem_mem h)).1
    | succ k =>
      rw [atK_succ (by omega)]
      exact (List.pairwise_iff_getElem.1 hT.asc) k (k + 1) (by omega) h (by omega)
  unfold nxt
  generalize atK T k = a at hlo hhi
  have h1 : (T.take k).find? (fun x => kl a x.1) = none := List.find?_eq_none.2 (fun x hx => by rw [hlo x hx]; decide)
  conv => lhs; rw [← List.take_append_drop k T]
  rw [List.find?_append, h1, Option.none_or]
  by_cases h : k < T.length
  · rw [List.drop_eq_getElem_cons h, List.find?_cons_of_pos (by exact hhi h), List.getElem?_eq_getElem h]
  · rw [List.drop_eq_nil_of_le (by omega), List.getElem?_eq_none (by omega)]
    rfl
theorem atK_size {T : KV} (hT : SOk T) (k : Nat) : (atK T k).size ≤ 64 := by
  cases k with
  | zero => exact Nat.zero_le _
  | succ k =>
    by_cases h : k < T.length
    · rw [atK_succ h]; exact (isKey_size (hT.el _ (List.getElem_mem h)).1).2
    · show ((T[k]?.map Prod.fst).getD emp).size ≤ 64
      rw [List.getElem?_eq_none (by omega)]
      exact Nat.zero_le _
theorem lkp_el {T : KV} (hT : Asc T) {k : Nat} (h : k < T.length) : lkp T[k].1 T = some T[k].2 := by
  have aux : ∀ {T : KV}, Asc T → ∀ {x}, x ∈ T → lkp x.1 T = some x.2 := by
    intro T
    induction T with
    | nil => intro _ x h; exact nomatch h
    | cons y T ih =>
      intro hT x h
      obtain ⟨hy, hT'⟩ := List.pairwise_cons.1 hT
      unfold lkp
      rcases List.mem_cons.1 h with rfl | h
      · rw [if_pos rfl]
      · rw [if_neg (V.kl_ne (hy x h)), ih hT' h]
  exact aux hT (List.getElem_mem h)
def KBx (w : World) (v : Value) (W : World) : Prop := Below w.heap.size w W ∧ W.heap[w.heap.size]? = some (.cells #[v, .slice none 0 0] 26 (0, 0))
theorem KBx.go {w W W' : World} {v : Value} (h : KBx w v W) (hb : Below W.heap.size W W') : KBx w v W' := ⟨below_on h.1 hb, blk_of hb h.2 (hp_lt h.2)⟩
set_option maxHeartbeats 6400000 in
theorem kept_any (p : Nat) (v : Value) (T : KV) (w : World) (hV : VC w p T) (h : Rf w 4 v T.length (T.flatMap ecs)) (hl : T.length ≤ 1000) (hT : SOk T) :
    Calls Tryz.prog 15 #[.pointer (some ⟨p, 0, none⟩), .agg #[v, .slice none 0 0]] w fun e w' => e = .returned (.bool true) ∧ Below w.heap.size w w' := by
  obtain ⟨ao, cap, rfl, -, -⟩ := h.shape
  obtain ⟨TN, hTN⟩ : ∃ TN, TN = T.length := ⟨_, rfl⟩
  have H := hid (And.intro hV (And.intro h (And.intro hT (And.intro hTN hl))))
  have HTN := hid hTN
  have hKI := hid (show KBx w (.slice ao TN cap) (w.alloc (.cells #[.slice ao TN cap, .slice none 0 0] 26)) from ⟨below1 w _, hp_new w _⟩)
  rw [← hTN]
  clear hV h hT hl hTN
  go_enter Tryz.func15, Tryz.ntmps15
  go_wp2_with fail
  go_loopw [5, 6] (fun va ix wr => ∃ k : Nat, k ≤ TN ∧ va = .string (atK T k) ∧ ix = .int .i64 k ∧ Hid (KBx w (.slice ao TN cap) wr)) (fun _ ix _ => TN - (intOf ix).toNat)
  case atStart => exact ⟨0, Nat.zero_le _, rfl, by go_num, hKI⟩
  case round =>
    obtain ⟨k, hk, rfl, rfl, HR⟩ := hrel
    obtain ⟨b0, b1, b2⟩ := cells2f HR.out.2
    have hbz := hp_lt HR.out.2
    have HN := hid (fun (W : World) (hb : KBx w (.slice ao TN cap) W) => vnext W p T (atK T k) (H.out.1.vl.below hb.1) (by have := atK_size H.out.2.2.1 k; omega))
    have hnx := nxt_at (T := T) H.out.2.2.1 (k := k) (by rw [← HTN.out]; exact hk)
    rw [hnx] at HN
    clear hnx
    by_cases hlt : k < TN
    · have hkT : k < T.length := by rw [← HTN.out]; exact hlt
      have i1 : (k : Int) < (TN : Int) := by omega
      have i2 : k < 1000 := by have := H.out.2.2.2.2; have := HTN.out; omega
      have HG := hid (fun (W : World) (hb : KBx w (.slice ao TN cap) W) => vget W p T T[k].1 (H.out.1.vl.below hb.1))
      rw [lkp_el H.out.2.2.1.asc hkT] at HG
      rw [List.getElem?_eq_getElem hkT] at HN
      obtain ⟨b, off, cap', e, -, -, hcell⟩ := Rf.elem (f := ecs) (fun _ => rfl) (by omega) H.out.2.1 k hkT
      injection e with e1 _ e3
      subst e1 e3
      obtain ⟨y, hy⟩ : ∃ y, y = T[k] := ⟨_, rfl⟩
      obtain ⟨z, hz⟩ : ∃ z, z = T[k] := ⟨_, rfl⟩
      rw [← hy] at hcell
      rw [← hz] at HN HG
      have hat : atK T (k + 1) = z.1 := by rw [atK_succ hkT, hz]
      have hyz := hy.trans hz.symm
      obtain ⟨yk, yv⟩ := y
      obtain ⟨ykk, yki, ykt⟩ := yv
      obtain ⟨zk, zv⟩ := z
      obtain ⟨zkk, zki, zkt⟩ := zv
      have hne := neq28 zkk zki zkt ykk yki ykt (congrArg (fun x => x.2.k) hyz.symm) (congrArg (fun x => x.2.i) hyz.symm) (congrArg (fun x => x.2.t) hyz.symm)
      have hkk : (zk.toList == yk.toList) = true := by rw [show yk = zk from congrArg Prod.fst hyz]; simp
      have HC := hid (show ∀ W, KBx w (.slice (some ⟨b, off, none⟩) TN cap) W → W.cell? ⟨w.heap.size, 0, none⟩ = some (.slice (some ⟨b, off, none⟩) TN cap) ∧ W.cell? ⟨b, off + k * 4, none⟩ = some (.string yk) ∧ W.cell? ⟨b, off + k * 4 + 1, none⟩ = some (.int .i64 ykk) ∧ W.cell? ⟨b, off + k * 4 + 1 + 1, none⟩ = some (.int .i64 yki) ∧ W.cell? ⟨b, off + k * 4 + 1 + 2, none⟩ = some (.string ykt) from fun W hb => by
        have go : ∀ {j : Nat} {u : Value}, (ecs (yk, ⟨ykk, yki, ykt⟩))[j]? = some u → W.cell? ⟨b, off + k * 4 + j, none⟩ = some u := fun hu => (hb.1.cell (World.block_lt_of_cell? _ _ (hcell _ _ hu))).trans (hcell _ _ hu)
        exact ⟨by rw [cell_of_row _ _ _ _ _ _ hb.2]; rfl, go (j := 0) rfl, go (j := 1) rfl, go (j := 2) rfl, go (j := 3) rfl⟩)
      have HAT := hid hat
      clear hy hz hyz hcell hat hk
      go_upto_region 7 with (first
        | (go_at_call 29
           refine (HN.out _ HR.out).mono ?_
           rintro e w1 ⟨rfl, hb1⟩
           have H1 := hid (HR.out.go hb1)
           clear hb1 HN)
        | (go_at_call 30
           refine (HG.out _ H1.out).mono ?_
           rintro e w2 ⟨rfl, hb2⟩
           have H2 := hid (H1.out.go hb2)
           obtain ⟨c0, c1, c2, c3, c4⟩ := HC.out w2 (H1.out.go hb2)
           clear hb2))
      have H3 := hid (H2.out.go (below1 w2 (.cells #[.int .i64 zkk, .int .i64 zki, .string zkt] 29)))
      refine cutG (fun W => KBx w (.slice (some ⟨b, off, none⟩) TN cap) W ∧ W.heap[w2.heap.size]? = some (.cells #[.int .i64 zkk, .int .i64 zki, .string zkt] 29 (0, 0))) ⟨H3.out, hp_new w2 _⟩ ?_
      clear c0 c1 c2 c3 c4 H1 H2 H3 b0 b1 b2 hbz
      rintro W4 ⟨hK4, hx4⟩
      obtain ⟨f0, f1, f2, -⟩ := vfacts hx4
      obtain ⟨c0, c1, c2, c3, c4⟩ := HC.out W4 hK4
      have H4 := hid hK4
      clear hK4 hx4
      go_region
      all_goals
        go_wp2_with fail
        go_roundw
        case rel => exact ⟨k + 1, by omega, by rw [HAT.out], by go_num, hid (H4.out.go ((Below.refl _ _).drew))⟩
        case measure => simp [intOf]; omega
    · obtain rfl : TN = k := by omega
      have i1 : ¬ (TN : Int) < (TN : Int) := by omega
      rw [List.getElem?_eq_none (by rw [← HTN.out]; exact Nat.le_refl _)] at HN
      have HL := hid (fun (W : World) (hb : KBx w (.slice ao TN cap) W) => vlen W p T (H.out.1.below hb.1))
      have HM := hid (fun (W : World) (hb : KBx w (.slice ao TN cap) W) => vmarked W p T (H.out.1.below hb.1))
      rw [← HTN.out] at HL
      go_upto_region 11 with (
        go_at_call 29
        refine (HN.out _ HR.out).mono ?_
        rintro e w1 ⟨rfl, hb1⟩
        have H1 := hid (HR.out.go hb1)
        obtain ⟨c0, -, -⟩ := cells2f H1.out.2
        clear hb1 HN)
      have H2 := hid (H1.out.go ((Below.refl _ _).drew))
      go_region_held3 (fun wx => wx.cell? ⟨w.heap.size, 0, none⟩ = some (.slice ao TN cap))
        (exact c0)
        (first
        | (go_at_call 31
           refine (HL.out _ H2.out).mono ?_
           rintro e w' ⟨rfl, e1⟩
           rw [e1]
           clear e1 w')
        | (go_at_call 32
           refine (HM.out _ H2.out).mono ?_
           rintro e w' ⟨rfl, e1⟩
           rw [e1]
           clear e1 w'))
      go_wp2_with fail
      go_ret
      exact ⟨rfl, H2.out.1⟩
theorem info_one {e : TypeId} {z : Value} {m bytes : Nat} (h : (Tryz.prog.info? e).map (fun i => (i.zero, i.size, i.bytes)) = some (some z, m, bytes)) : ∃ i, Tryz.prog.info? e = some i ∧ i.zero = some z ∧ i.size = m ∧ i.bytes = bytes := by
  cases hi : Tryz.prog.info? e with
  | none => rw [hi] at h; cases h
  | some i =>
    rw [hi] at h
    injection h with h
    injection h with h1 h
    injection h with h2 h3
    exact ⟨i, rfl, h1, h2, h3⟩
theorem wpList_append_keep (w : World) {ops : Array Oper} {rest : List Oper} {o : Oper} {a : Act} {Q : Exit → Act → World → Prop} (hgd : o.guard = none) (s x : Operand) (t e : TypeId) (z : Value) (m bytes : Nat)
    (ho : o.op = .call { callee := .builtin .append, args := #[s, x], argTypes := #[t, t] }) (ht : Tryz.prog.underlying t = some (.slice e)) (hinfo : (Tryz.prog.info? e).map (fun i => (i.zero, i.size, i.bytes)) = some (some z, m, bytes)) (hzs : z.cells.size = m) (hm : 0 < m)
    (B : Nat) (v : Value) (n : Nat) (xs : List Value) (hs : a.eval s = v) (hown : w.ownsRow B e m v n xs)
    (q c1 : Nat) (ys : List Value) (hx : a.eval x = .slice (some ⟨q, 0, none⟩) 1 c1) (hsn : Rf w m (.slice (some ⟨q, 0, none⟩) 1 c1) 1 ys) (hl : (n + 1) * bytes ≤ 140737488355328) (hl2 : n + 1 ≤ maxLen) (hbase : B ≤ w.heap.size)
    (h : ∀ ao c w', Hid (w'.ownsRow B e m (.slice ao (n + 1) c) (n + 1) (xs ++ ys)) → Hid ((Value.slice ao (n + 1) c).ownBlock = v.ownBlock ∧ v.ownBlock ≠ none ∧ w.grownBy w' v.ownBlock ∨ w.heap.size ≤ ((Value.slice ao (n + 1) c).ownBlock.getD w.heap.size) ∧ w.grownBy w' none) → wpList Tryz.prog ops Q rest (a.put o.dst (.slice ao (n + 1) c)) w') : wpList Tryz.prog ops Q (o :: rest) a w := by
  obtain ⟨i0, hi, hz0, hz1, hz2⟩ := info_one hinfo
  obtain ⟨hs1, hs2, hs3⟩ := hsn
  have hnews : ∀ j u, ys[j]? = some u → w.cell? ((⟨q, 0, none⟩ : Addr).add j) = some u := by
    intro j u hu
    rcases hs3 with ⟨e1, _⟩ | ⟨a', cap, e1, _, _, h4⟩
    · injection e1 with e1 _ _
      exact nomatch e1
    · injection e1 with e1 _ _
      injection e1 with e1
      subst e1
      exact h4 j u hu
  have grows : ∀ (ao : Option Addr) (cap : Nat), v = .slice ao n cap → (ao = none → n = 0 ∧ cap = 0) → cap < n + 1 → (∀ b, ao = some b → ∀ j u, xs[j]? = some u → w.cell? (b.add j) = some u) → wpList Tryz.prog ops Q (o :: rest) a w := by
    intro ao cap hv hnone hfull holds
    refine wpList_append_grows (P := Tryz.prog) w hgd s x t ho e i0 z m bytes ht hi hz0 hz1 hz2 hzs hm ao n cap xs (hs.trans hv) hnone hown.1 holds ⟨q, 0, none⟩ 1 c1 ys hx hs1 hnews hs2 hfull hl2 hl ?_
    intro v' w' h1 h2
    obtain ⟨ao', c', rfl⟩ := own_shape h1
    refine h ao' c' w' (hid (owns_mono h1 hbase)) (hid (.inr ⟨?_, h2⟩))
    cases hb : (Value.slice ao' (n + 1) c').ownBlock with
    | none => exact Nat.le_refl _
    | some k => exact (h1.lt k hb).1
  rcases hown.2 with ⟨rfl, rfl⟩ | ⟨g, cap, cur, rfl, hbg, hg, hnc, hcm, hcs, htake⟩
  · exact grows none 0 rfl (fun _ => ⟨rfl, rfl⟩) (by omega) (fun b hb => by cases hb)
  · by_cases hroom : n + 1 ≤ cap
    · have hfit : n * i0.size + ys.length ≤ cur.size := by
        rw [hz1, hcs, hs1, ← Nat.add_mul]
        exact Nat.mul_le_mul_right _ hroom
      have hrun := run_append_room (P := Tryz.prog) w t o.type e i0 ht hi g n cap cur hg ⟨q, 0, none⟩ 1 c1 ys (by rw [hs1, hz1]) hnews hs2 hroom hfit
      rw [hz1] at hrun hfit
      refine wpList_plain hgd fun K hK => ?_
      unfold Oper.wp execOp
      simp only [ho, resolve, invoke, builtin, Sem.run_bind, Sem.run_pure, Result.andThen_ok, List.map_toArray, List.map_cons, List.map_nil, hs, hx, hrun]
      refine hK _ _ (h _ _ _ (hid ?_) (hid (.inl ⟨rfl, by simp [Value.ownBlock], ?_⟩)))
      · have hxl : xs.length = n * m := hown.1
        refine ⟨by rw [List.length_append, hxl, hs1, Nat.add_mul], .inr ⟨g, cap, _, rfl, hbg, setRow_heap w g cur _ e (0, 0) hg, hroom, hcm, ?_, ?_⟩⟩
        · rw [htake]
          simp only [List.size_toArray, List.length_append, List.length_drop, Array.length_toList]
          rw [hxl] at *
          omega
        · rw [htake]
          simp only [List.append_assoc]
          rw [← List.append_assoc, List.take_left' (by rw [List.length_append, hxl, hs1, Nat.add_mul])]
      · exact ⟨rfl, rfl, rfl, by simp, fun k _ hk => setRow_other w g k _ (fun e2 => hk (by rw [e2]; rfl))⟩
    · refine grows (some ⟨g, 0, none⟩) cap rfl (fun e => by cases e) (by omega) (fun b hb j u hu => ?_)
      injection hb with hb
      subst hb
      exact hown.cells (g := g) rfl j u hu
def upd {α : Type} (f : Nat → α) (i : Nat) (v : α) : Nat → α := fun j => if j = i then v else f j
theorem upd_self {α : Type} (f : Nat → α) (i : Nat) (v : α) : upd f i v i = v := by simp [upd]
theorem upd_ne {α : Type} (f : Nat → α) {i j : Nat} (v : α) (h : j ≠ i) : upd f i v j = f j := by simp [upd, h]
def Lo {α : Type} (W : World) (B H : Nat) (e : TypeId) (s c : Nat) (mk : α → Value) (v : Value) (n : Nat) (m : Nat → α) : Prop :=
  ∃ cs, W.ownsRow B e s v n cs ∧ (∀ b, v.ownBlock = some b → b < H) ∧ (∀ u ∈ cs, u.oneCell' = true) ∧ ∀ p, p < n → cs[p * s + c]? = some (mk (m p))
section
variable {W W' : World} {B H : Nat} {e : TypeId} {s c : Nat} {α : Type} {mk : α → Value} {v : Value} {n : Nat} {m : Nat → α}
theorem Lo.kept {S : Nat → Prop} (h : Lo W B H e s c mk v n m) (hk : Kept S W W') (hs : ∀ b, B ≤ b → b < H → ¬ S b) : Lo W' B H e s c mk v n m := by
  obtain ⟨cs, h1, h2, h3, h4⟩ := h
  exact ⟨cs, ownsRow_kept h1 hk (fun q hq e => hs q (h1.lt q hq).1 (h2 q hq) e), h2, h3, h4⟩
theorem Lo.at_ (h : Lo W B H e s c mk v n m) {k : Nat} (hk : k < n) : ∃ g cap, v = .slice (some ⟨g, 0, none⟩) n cap ∧ n ≤ cap ∧ cap ≤ maxLen ∧ B ≤ g ∧ g < H ∧ g < W.heap.size ∧ W.cell? ⟨g, k * s + c, none⟩ = some (mk (m k)) ∧ (∀ o, W.frozen? ⟨g, o, none⟩ = false) := by
  obtain ⟨cs, h1, h2, h3, h4⟩ := h
  have hr := h1
  rcases h1.2 with ⟨rfl, rfl⟩ | ⟨g, cap, cur, rfl, hb, hg, hn, hm, -, -⟩
  · omega
  · have hc := hr.cells (g := g) rfl _ _ (h4 k hk)
    rw [add_lit, Nat.zero_add] at hc
    exact ⟨g, cap, rfl, hn, hm, hb, h2 g rfl, hp_lt hg, hc, fun o => by simp [World.frozen?, hg]⟩
end
theorem Lo.set3 {W : World} {B H : Nat} {e : TypeId} {α : Type} {mk : α → Value} {v : Value} {n : Nat} {m : Nat → α} (h : Lo W B H e 3 0 mk v n m) {k : Nat} (hk : k < n) (x : α) {u0 u1 u2 : Value} (hu : u0 = mk x) (ho : u0.oneCell' = true ∧ u1.oneCell' = true ∧ u2.oneCell' = true) :
    ∃ g cap, v = .slice (some ⟨g, 0, none⟩) n cap ∧ Lo (((W.setCell ⟨g, k * 3, none⟩ u0).setCell ⟨g, k * 3 + 1, none⟩ u1).setCell ⟨g, k * 3 + 2, none⟩ u2) B H e 3 0 mk v n (upd m k x) := by
  obtain ⟨cs, h1, h2, h3, h4⟩ := h
  obtain ⟨ho0, ho1, ho2⟩ := ho
  obtain ⟨g, cap, rfl⟩ : ∃ g cap, v = .slice (some ⟨g, 0, none⟩) n cap := by
    rcases h1.2 with ⟨_, e2⟩ | ⟨g, cap, _, e1, _⟩
    · omega
    · exact ⟨g, cap, e1⟩
  have q1 := (h1.stored (k * 3) u0).1
  have q2 := (q1.stored (k * 3 + 1) u1).1
  have q3 := (q2.stored (k * 3 + 2) u2).1
  have hone : ∀ u ∈ ((cs.set (k * 3) u0).set (k * 3 + 1) u1).set (k * 3 + 2) u2, u.oneCell' = true := by
    intro u hu
    rcases List.mem_or_eq_of_mem_set hu with hu | rfl
    rotate_left
    · exact ho2
    rcases List.mem_or_eq_of_mem_set hu with hu | rfl
    rotate_left
    · exact ho1
    rcases List.mem_or_eq_of_mem_set hu with hu | rfl
    rotate_left
    · exact ho0
    exact h3 u hu
  refine ⟨g, cap, rfl, ((cs.set (k * 3) u0).set (k * 3 + 1) u1).set (k * 3 + 2) u2, q3, h2, hone, fun p hp => ?_⟩
  have hlen : cs.length = n * 3 := h1.1
  by_cases e : p = k
  · subst e
    rw [upd_self, ← hu]
    simp only [List.getElem?_set, List.length_set]
    repeat' split
    all_goals first | rfl | omega | exact absurd trivial (by assumption)
  · rw [upd_ne _ _ e, ← h4 p hp]
    simp only [List.getElem?_set, List.length_set]
    repeat' split
    all_goals first | rfl | omega | exact absurd trivial (by assumption)
theorem Lo.set4 {W : World} {B H : Nat} {e : TypeId} {α : Type} {mk : α → Value} {v : Value} {n : Nat} {m : Nat → α} (h : Lo W B H e 4 1 mk v n m) {k : Nat} (hk : k < n) (x : α) {u0 u1 u2 u3 : Value} (hu : u1 = mk x) (ho : u0.oneCell' = true ∧ u1.oneCell' = true ∧ u2.oneCell' = true ∧ u3.oneCell' = true) :
    ∃ g cap, v = .slice (some ⟨g, 0, none⟩) n cap ∧ Lo ((((W.setCell ⟨g, k * 4, none⟩ u0).setCell ⟨g, k * 4 + 1, none⟩ u1).setCell ⟨g, k * 4 + 2, none⟩ u2).setCell ⟨g, k * 4 + 3, none⟩ u3) B H e 4 1 mk v n (upd m k x) := by
  obtain ⟨cs, h1, h2, h3, h4⟩ := h
  obtain ⟨ho0, ho1, ho2, ho3⟩ := ho
  obtain ⟨g, cap, rfl⟩ : ∃ g cap, v = .slice (some ⟨g, 0, none⟩) n cap := by
    rcases h1.2 with ⟨_, e2⟩ | ⟨g, cap, _, e1, _⟩
    · omega
    · exact ⟨g, cap, e1⟩
  have q1 := (h1.stored (k * 4) u0).1
  have q2 := (q1.stored (k * 4 + 1) u1).1
  have q3 := (q2.stored (k * 4 + 2) u2).1
  have q4 := (q3.stored (k * 4 + 3) u3).1
  have hone : ∀ u ∈ (((cs.set (k * 4) u0).set (k * 4 + 1) u1).set (k * 4 + 2) u2).set (k * 4 + 3) u3, u.oneCell' = true := by
    intro u hu
    rcases List.mem_or_eq_of_mem_set hu with hu | rfl
    rotate_left
    · exact ho3
    rcases List.mem_or_eq_of_mem_set hu with hu | rfl
    rotate_left
    · exact ho2
    rcases List.mem_or_eq_of_mem_set hu with hu | rfl
    rotate_left
    · exact ho1
    rcases List.mem_or_eq_of_mem_set hu with hu | rfl
    rotate_left
    · exact ho0
    exact h3 u hu
  refine ⟨g, cap, rfl, (((cs.set (k * 4) u0).set (k * 4 + 1) u1).set (k * 4 + 2) u2).set (k * 4 + 3) u3, q4, h2, hone, fun p hp => ?_⟩
  have hlen : cs.length = n * 4 := h1.1
  by_cases e : p = k
  · subst e
    rw [upd_self, ← hu]
    simp only [List.getElem?_set, List.length_set]
    repeat' split
    all_goals first | rfl | omega | exact absurd trivial (by assumption)
  · rw [upd_ne _ _ e, ← h4 p hp]
    simp only [List.getElem?_set, List.length_set]
    repeat' split
    all_goals first | rfl | omega | exact absurd trivial (by assumption)
theorem Lo.set2 {W : World} {B H : Nat} {e : TypeId} {α : Type} {mk : α → Value} {v : Value} {n : Nat} {m : Nat → α} (h : Lo W B H e 2 0 mk v n m) {k : Nat} (hk : k < n) (x : α) {u0 u1 : Value} (hu : u0 = mk x) (ho : u0.oneCell' = true ∧ u1.oneCell' = true) :
    ∃ g cap, v = .slice (some ⟨g, 0, none⟩) n cap ∧ Lo ((W.setCell ⟨g, k * 2, none⟩ u0).setCell ⟨g, k * 2 + 1, none⟩ u1) B H e 2 0 mk v n (upd m k x) := by
  obtain ⟨cs, h1, h2, h3, h4⟩ := h
  obtain ⟨ho0, ho1⟩ := ho
  obtain ⟨g, cap, rfl⟩ : ∃ g cap, v = .slice (some ⟨g, 0, none⟩) n cap := by
    rcases h1.2 with ⟨_, e2⟩ | ⟨g, cap, _, e1, _⟩
    · omega
    · exact ⟨g, cap, e1⟩
  have q1 := (h1.stored (k * 2) u0).1
  have q2 := (q1.stored (k * 2 + 1) u1).1
  have hone : ∀ u ∈ (cs.set (k * 2) u0).set (k * 2 + 1) u1, u.oneCell' = true := by
    intro u hu
    rcases List.mem_or_eq_of_mem_set hu with hu | rfl
    rotate_left
    · exact ho1
    rcases List.mem_or_eq_of_mem_set hu with hu | rfl
    rotate_left
    · exact ho0
    exact h3 u hu
  refine ⟨g, cap, rfl, (cs.set (k * 2) u0).set (k * 2 + 1) u1, q2, h2, hone, fun p hp => ?_⟩
  have hlen : cs.length = n * 2 := h1.1
  by_cases e : p = k
  · subst e
    rw [upd_self, ← hu]
    simp only [List.getElem?_set, List.length_set]
    repeat' split
    all_goals first | rfl | omega | exact absurd trivial (by assumption)
  · rw [upd_ne _ _ e, ← h4 p hp]
    simp only [List.getElem?_set, List.length_set]
    repeat' split
    all_goals first | rfl | omega | exact absurd trivial (by assumption)
structure Fa {α : Type} (W : World) (e : TypeId) (s c : Nat) (mk : α → Value) (n K : Nat) (V : Nat → Value) (L : Nat → Nat) (m : Nat → Nat → α) : Prop where
  li : ∀ i, i < K → Lo W (L i) (L (i + 1)) e s c mk (V i) n (m i)
  up : ∀ i, i < K → L i ≤ L (i + 1)
section
variable {W W' : World} {e : TypeId} {s c : Nat} {α : Type} {mk : α → Value} {n K : Nat} {V : Nat → Value} {L : Nat → Nat} {m : Nat → Nat → α}
theorem Fa.le (h : Fa W e s c mk n K V L m) : ∀ j i, i ≤ j → j ≤ K → L i ≤ L j
  | 0, i, h1, _ => by rw [Nat.le_zero.1 h1]; exact Nat.le_refl _
  | j + 1, i, h1, h2 => by
    rcases Nat.lt_or_ge i (j + 1) with h3 | h3
    · exact Nat.le_trans (h.le j i (by omega) (by omega)) (h.up j (by omega))
    · rw [show i = j + 1 by omega]; exact Nat.le_refl _
theorem Fa.kept {S : Nat → Prop} (h : Fa W e s c mk n K V L m) (hk : Kept S W W') (hs : ∀ b, L 0 ≤ b → b < L K → ¬ S b) : Fa W' e s c mk n K V L m :=
  ⟨fun i hi => (h.li i hi).kept hk (fun b h1 h2 => hs b (Nat.le_trans (h.le i 0 (by omega) (by omega)) h1) (Nat.lt_of_lt_of_le h2 (h.le K (i + 1) (by omega) (Nat.le_refl _)))), h.up⟩
theorem Fa.below (h : Fa W e s c mk n K V L m) (hb : Below W.heap.size W W') : Fa W' e s c mk n K V L m := h.kept (Kept.ofBelow hb) (fun _ _ _ h => h)
theorem Fa.put (h : Fa W e s c mk n K V L m) {i g cap : Nat} (hi : i < K) (hv : V i = .slice (some ⟨g, 0, none⟩) n cap) (hg : L i ≤ g ∧ g < L (i + 1)) (hk : Kept (fun j => j = g) W W') {m' : Nat → α} (hl : Lo W' (L i) (L (i + 1)) e s c mk (V i) n m') : Fa W' e s c mk n K V L (upd m i m') := by
  refine ⟨fun j hj => ?_, h.up⟩
  by_cases e : j = i
  · subst e; rw [upd_self]; exact hl
  · rw [upd_ne _ _ e]
    refine (h.li j hj).kept hk (fun b h1 h2 e2 => ?_)
    subst e2
    rcases Nat.lt_or_gt_of_ne e with h3 | h3
    · have := h.le i (j + 1) (by omega) (by omega); omega
    · have := h.le j (i + 1) (by omega) (by omega); omega
end
structure EfO (B : Nat) (w' : World) (f : Ef) (t1 t2 t3 : Option Addr) (k1 k2 k3 : Nat) : Prop where
  o1 : w'.ownsRow B 29 3 (.slice t1 f.td.length k1) f.td.length (f.td.flatMap vcs)
  o2 : w'.ownsRow B 45 4 (.slice t2 f.wr.length k2) f.wr.length (f.wr.flatMap ecs)
  o3 : w'.ownsRow B 55 2 (.slice t3 f.lk.length k3) f.lk.length (f.lk.flatMap lcs)
theorem run_own (p : Nat) (av S : Value) (nm : ByteArray) (ar : Int) (xs : List Ins) (al : List Vd) (w : World) (dig : Int → List Int) (L : KV) (hc : CodeAt w S xs) (ha : Va w av al) (hl : xs.length ≤ 1000) (hla : al.length ≤ 1000)
    (hi : ∀ x ∈ xs, inR x.i = true) (hv : ∀ x ∈ al, inR x.i = true) (hV : VL w p L) (hL : LOk L) (hd : Digs dig w) (f : Ef) (hf : efR dig L nm ar xs al = f) :
    Calls Tryz.prog 7 #[.iface 42 (.pointer (some ⟨p, 0, none⟩)), .agg #[.string nm, .int .i64 ar, S], av] w fun e w' => ∃ t1 k1 t2 k2 t3 k3, e = .returned (.agg #[.int .i64 f.st, .int .i64 f.at_, .slice t1 f.td.length k1, .slice t2 f.wr.length k2, .slice t3 f.lk.length k3]) ∧ EfO w.heap.size w' f t1 t2 t3 k1 k2 k3 ∧ Below w.heap.size w w' := by
  refine (exec_all p av S nm ar xs al w dig L hc ha hl hla hi hv hV hL hd).mono ?_
  rintro e w' ⟨v, rfl, hE, hb⟩
  rw [hf] at hE
  obtain ⟨t1, k1, t2, k2, t3, k3, rfl, h1, h2, h3, -⟩ := hE.ex
  exact ⟨t1, k1, t2, k2, t3, k3, rfl, ⟨owns_mono h1 (by omega), owns_mono h2 (by omega), owns_mono h3 (by omega)⟩, hb⟩
structure OF (WA W : World) (f : Ef) (i : Nat) (A1 A2 A3 : Nat → Option Addr) (q1 q2 q3 : Nat → Nat) (L : Nat → Nat) : Prop where
  bl : Below WA.heap.size WA W
  hd : ∃ cs, W.heap[WA.heap.size]? = some (.cells cs 51 (0, 0)) ∧ cs.size = 15 ∧ ∀ j, j < i → cs[j * 5]? = some (.int .i64 f.st) ∧ cs[j * 5 + 1]? = some (.int .i64 f.at_) ∧ cs[j * 5 + 2]? = some (.slice (A1 j) f.td.length (q1 j)) ∧ cs[j * 5 + 3]? = some (.slice (A2 j) f.wr.length (q2 j)) ∧ cs[j * 5 + 4]? = some (.slice (A3 j) f.lk.length (q3 j))
  r1 : ∀ j, j < i → W.ownsRow (L j) 29 3 (.slice (A1 j) f.td.length (q1 j)) f.td.length (f.td.flatMap vcs) ∧ ∀ b, (Value.slice (A1 j) f.td.length (q1 j)).ownBlock = some b → b < L (j + 1)
  r2 : ∀ j, j < i → W.ownsRow (L j) 45 4 (.slice (A2 j) f.wr.length (q2 j)) f.wr.length (f.wr.flatMap ecs) ∧ ∀ b, (Value.slice (A2 j) f.wr.length (q2 j)).ownBlock = some b → b < L (j + 1)
  r3 : ∀ j, j < i → W.ownsRow (L j) 55 2 (.slice (A3 j) f.lk.length (q3 j)) f.lk.length (f.lk.flatMap lcs) ∧ ∀ b, (Value.slice (A3 j) f.lk.length (q3 j)).ownBlock = some b → b < L (j + 1)
  l0 : WA.heap.size < L 0
  up : ∀ j, j < i → L j ≤ L (j + 1)
  ll : L i ≤ W.heap.size
theorem of_zero (WA : World) (f : Ef) (cs : Array Value) (hc : cs.size = 15) : OF WA (WA.alloc (.cells cs 51)) f 0 (fun _ => none) (fun _ => none) (fun _ => none) (fun _ => 0) (fun _ => 0) (fun _ => 0) (fun _ => WA.heap.size + 1) :=
  ⟨below1 WA _, ⟨cs, hp_new WA _, hc, fun j h => absurd h (Nat.not_lt_zero _)⟩, fun j h => absurd h (Nat.not_lt_zero _), fun j h => absurd h (Nat.not_lt_zero _), fun j h => absurd h (Nat.not_lt_zero _), Nat.lt_succ_self _, fun j h => absurd h (Nat.not_lt_zero _), by simp⟩
theorem OF.lle {WA W : World} {f : Ef} {i : Nat} {A1 A2 A3 : Nat → Option Addr} {q1 q2 q3 L : Nat → Nat} (h : OF WA W f i A1 A2 A3 q1 q2 q3 L) : ∀ j, j ≤ i → L 0 ≤ L j
  | 0, _ => Nat.le_refl _
  | j + 1, hj => Nat.le_trans (h.lle j (by omega)) (h.up j (by omega))
theorem arr5 (cs : Array Value) (hsz : cs.size = 15) (i : Nat) (hi : i < 3) (a b c d e : Value) (j : Nat) (hj : j < 3) :
    ((((((cs.setIfInBounds (i * 5) a).setIfInBounds (i * 5 + 1) b).setIfInBounds (i * 5 + 2) c).setIfInBounds (i * 5 + 3) d).setIfInBounds (i * 5 + 4) e)[j * 5]? = if j = i then some a else cs[j * 5]?) ∧
    ((((((cs.setIfInBounds (i * 5) a).setIfInBounds (i * 5 + 1) b).setIfInBounds (i * 5 + 2) c).setIfInBounds (i * 5 + 3) d).setIfInBounds (i * 5 + 4) e)[j * 5 + 1]? = if j = i then some b else cs[j * 5 + 1]?) ∧
    ((((((cs.setIfInBounds (i * 5) a).setIfInBounds (i * 5 + 1) b).setIfInBounds (i * 5 + 2) c).setIfInBounds (i * 5 + 3) d).setIfInBounds (i * 5 + 4) e)[j * 5 + 2]? = if j = i then some c else cs[j * 5 + 2]?) ∧
    ((((((cs.setIfInBounds (i * 5) a).setIfInBounds (i * 5 + 1) b).setIfInBounds (i * 5 + 2) c).setIfInBounds (i * 5 + 3) d).setIfInBounds (i * 5 + 4) e)[j * 5 + 3]? = if j = i then some d else cs[j * 5 + 3]?) ∧
    ((((((cs.setIfInBounds (i * 5) a).setIfInBounds (i * 5 + 1) b).setIfInBounds (i * 5 + 2) c).setIfInBounds (i * 5 + 3) d).setIfInBounds (i * 5 + 4) e)[j * 5 + 4]? = if j = i then some e else cs[j * 5 + 4]?) := by
  rcases (by omega : i = 0 ∨ i = 1 ∨ i = 2) with rfl | rfl | rfl <;> rcases (by omega : j = 0 ∨ j = 1 ∨ j = 2) with rfl | rfl | rfl <;> simp [hsz]
set_option maxHeartbeats 1600000 in
theorem OF.step {WA wr w5 : World} {f : Ef} {i : Nat} {A1 A2 A3 : Nat → Option Addr} {q1 q2 q3 L : Nat → Nat} (h : OF WA wr f i A1 A2 A3 q1 q2 q3 L) (hi : i < 3) {t1 t2 t3 : Option Addr} {k1 k2 k3 : Nat} (hE : EfO wr.heap.size w5 f t1 t2 t3 k1 k2 k3) (hb : Below wr.heap.size wr w5) :
    OF WA (((((w5.setCell ⟨WA.heap.size, i * 5, none⟩ (.int .i64 f.st)).setCell ⟨WA.heap.size, i * 5 + 1, none⟩ (.int .i64 f.at_)).setCell ⟨WA.heap.size, i * 5 + 2, none⟩ (.slice t1 f.td.length k1)).setCell ⟨WA.heap.size, i * 5 + 3, none⟩ (.slice t2 f.wr.length k2)).setCell ⟨WA.heap.size, i * 5 + 4, none⟩ (.slice t3 f.lk.length k3)) f (i + 1) (upd A1 i t1) (upd A2 i t2) (upd A3 i t3) (upd q1 i k1) (upd q2 i k2) (upd q3 i k3) (fun j => if j ≤ i then L j else w5.heap.size) := by
  obtain ⟨cs, hc, hsz, hcs⟩ := h.hd
  have K : Kept (fun q => q = WA.heap.size) w5 (((((w5.setCell ⟨WA.heap.size, i * 5, none⟩ (.int .i64 f.st)).setCell ⟨WA.heap.size, i * 5 + 1, none⟩ (.int .i64 f.at_)).setCell ⟨WA.heap.size, i * 5 + 2, none⟩ (.slice t1 f.td.length k1)).setCell ⟨WA.heap.size, i * 5 + 3, none⟩ (.slice t2 f.wr.length k2)).setCell ⟨WA.heap.size, i * 5 + 4, none⟩ (.slice t3 f.lk.length k3)) :=
    (((((Kept.refl (fun q => q = WA.heap.size) w5).setCell (p := ⟨WA.heap.size, i * 5, none⟩) (fun _ => rfl) _).setCell (p := ⟨WA.heap.size, i * 5 + 1, none⟩) (fun _ => rfl) _).setCell (p := ⟨WA.heap.size, i * 5 + 2, none⟩) (fun _ => rfl) _).setCell (p := ⟨WA.heap.size, i * 5 + 3, none⟩) (fun _ => rfl) _).setCell (p := ⟨WA.heap.size, i * 5 + 4, none⟩) (fun _ => rfl) _
  have e5 := blk_of hb hc (hp_lt hc)
  have g1 := Go.heap_setCell_same w5 WA.heap.size (i * 5) cs 51 (.int .i64 f.st) e5
  have g2 := Go.heap_setCell_same _ WA.heap.size (i * 5 + 1) _ 51 (.int .i64 f.at_) g1
  have g3 := Go.heap_setCell_same _ WA.heap.size (i * 5 + 2) _ 51 (.slice t1 f.td.length k1) g2
  have g4 := Go.heap_setCell_same _ WA.heap.size (i * 5 + 3) _ 51 (.slice t2 f.wr.length k2) g3
  have g5 := Go.heap_setCell_same _ WA.heap.size (i * 5 + 4) _ 51 (.slice t3 f.lk.length k3) g4
  have hWA := h.l0
  have hll := h.ll
  have hle := h.lle i (Nat.le_refl _)
  have hsw := hb.size
  have hbw : Below WA.heap.size WA w5 := h.bl.trans (hb.mono h.bl.size)
  have old : ∀ {e : TypeId} {s n : Nat} {v : Value} {xs : List Value} {B H : Nat}, wr.ownsRow B e s v n xs → L 0 ≤ B → ∀ W', Kept (fun q => q = WA.heap.size) w5 W' → W'.ownsRow B e s v n xs := fun ho hB W' hk =>
    ownsRow_kept (ownsRow_kept ho (Kept.ofBelow hb) (fun _ _ h => h)) hk (fun q hq e => by have := (ho.lt q hq).1; omega)
  have new : ∀ {e : TypeId} {s n : Nat} {v : Value} {xs : List Value}, w5.ownsRow wr.heap.size e s v n xs → ∀ W', Kept (fun q => q = WA.heap.size) w5 W' → W'.ownsRow (L i) e s v n xs ∧ ∀ b, v.ownBlock = some b → b < w5.heap.size := fun ho W' hk =>
    ⟨owns_mono (ownsRow_kept ho hk (fun q hq e => by have := (ho.lt q hq).1; omega)) hll, fun b hb2 => (ho.lt b hb2).2⟩
  obtain ⟨L', hL'⟩ : ∃ L' : Nat → Nat, (fun j => if j ≤ i then L j else w5.heap.size) = L' := ⟨_, rfl⟩
  have hLj : ∀ j, j ≤ i → L' j = L j := fun j hj => by rw [← hL']; exact if_pos hj
  have hLi : L' (i + 1) = w5.heap.size := by rw [← hL']; exact if_neg (by omega)
  rw [hL']
  clear hL'
  generalize hW : (((((w5.setCell ⟨WA.heap.size, i * 5, none⟩ (.int .i64 f.st)).setCell ⟨WA.heap.size, i * 5 + 1, none⟩ (.int .i64 f.at_)).setCell ⟨WA.heap.size, i * 5 + 2, none⟩ (.slice t1 f.td.length k1)).setCell ⟨WA.heap.size, i * 5 + 3, none⟩ (.slice t2 f.wr.length k2)).setCell ⟨WA.heap.size, i * 5 + 4, none⟩ (.slice t3 f.lk.length k3)) = W at K g5 ⊢
  clear g1 g2 g3 g4 hW
  refine ⟨hbw.trans (K.below hbw.size (fun k hk e => by omega)), ⟨_, g5, by simp [hsz], fun j hj => ?_⟩, fun j hj => ?_, fun j hj => ?_, fun j hj => ?_, by rw [hLj 0 (Nat.zero_le _)]; exact h.l0, fun j hj => ?_, by rw [hLi]; exact K.size⟩
  · obtain ⟨d0, d1, d2, d3, d4⟩ := arr5 cs hsz i hi (.int .i64 f.st) (.int .i64 f.at_) (.slice t1 f.td.length k1) (.slice t2 f.wr.length k2) (.slice t3 f.lk.length k3) j (by omega)
    by_cases e : j = i
    · rw [if_pos e] at d0 d1 d2 d3 d4
      subst e
      rw [upd_self, upd_self, upd_self, upd_self, upd_self, upd_self]
      exact ⟨d0, d1, d2, d3, d4⟩
    · rw [if_neg e] at d0 d1 d2 d3 d4
      obtain ⟨c0, c1, c2, c3, c4⟩ := hcs j (by omega)
      rw [upd_ne _ _ e, upd_ne _ _ e, upd_ne _ _ e, upd_ne _ _ e, upd_ne _ _ e, upd_ne _ _ e]
      exact ⟨d0.trans c0, d1.trans c1, d2.trans c2, d3.trans c3, d4.trans c4⟩
  · by_cases e : j = i
    · subst e
      rw [upd_self, upd_self, hLj j (Nat.le_refl _), hLi]
      exact new hE.o1 W K
    · rw [upd_ne _ _ e, upd_ne _ _ e, hLj j (by omega), hLj (j + 1) (by omega)]
      exact ⟨old (H := 0) (h.r1 j (by omega)).1 (h.lle j (by omega)) W K, (h.r1 j (by omega)).2⟩
  · by_cases e : j = i
    · subst e
      rw [upd_self, upd_self, hLj j (Nat.le_refl _), hLi]
      exact new hE.o2 W K
    · rw [upd_ne _ _ e, upd_ne _ _ e, hLj j (by omega), hLj (j + 1) (by omega)]
      exact ⟨old (H := 0) (h.r2 j (by omega)).1 (h.lle j (by omega)) W K, (h.r2 j (by omega)).2⟩
  · by_cases e : j = i
    · subst e
      rw [upd_self, upd_self, hLj j (Nat.le_refl _), hLi]
      exact new hE.o3 W K
    · rw [upd_ne _ _ e, upd_ne _ _ e, hLj j (by omega), hLj (j + 1) (by omega)]
      exact ⟨old (H := 0) (h.r3 j (by omega)).1 (h.lle j (by omega)) W K, (h.r3 j (by omega)).2⟩
  · by_cases e : j = i
    · subst e
      rw [hLj j (Nat.le_refl _), hLi]
      omega
    · rw [hLj j (by omega), hLj (j + 1) (by omega)]
      exact h.up j (by omega)
theorem OF.below {WA W W' : World} {f : Ef} {i : Nat} {A1 A2 A3 : Nat → Option Addr} {q1 q2 q3 L : Nat → Nat} (h : OF WA W f i A1 A2 A3 q1 q2 q3 L) (hb : Below W.heap.size W W') : OF WA W' f i A1 A2 A3 q1 q2 q3 L := by
  obtain ⟨cs, hc, hr⟩ := h.hd
  exact ⟨below_on h.bl hb, ⟨cs, blk_of hb hc (hp_lt hc), hr⟩, fun j hj => ⟨ownsRow_kept (h.r1 j hj).1 (Kept.ofBelow hb) (fun _ _ h => h), (h.r1 j hj).2⟩, fun j hj => ⟨ownsRow_kept (h.r2 j hj).1 (Kept.ofBelow hb) (fun _ _ h => h), (h.r2 j hj).2⟩, fun j hj => ⟨ownsRow_kept (h.r3 j hj).1 (Kept.ofBelow hb) (fun _ _ h => h), (h.r3 j hj).2⟩, h.l0, h.up, Nat.le_trans h.ll hb.size⟩
theorem OF.cells {WA W : World} {f : Ef} {i : Nat} {A1 A2 A3 : Nat → Option Addr} {q1 q2 q3 L : Nat → Nat} (h : OF WA W f i A1 A2 A3 q1 q2 q3 L) (hi : i < 3) : (∃ u0 u1 u2 u3 u4, W.cell? ⟨WA.heap.size, i * 5, none⟩ = some u0 ∧ W.cell? ⟨WA.heap.size, i * 5 + 1, none⟩ = some u1 ∧ W.cell? ⟨WA.heap.size, i * 5 + 2, none⟩ = some u2 ∧ W.cell? ⟨WA.heap.size, i * 5 + 3, none⟩ = some u3 ∧ W.cell? ⟨WA.heap.size, i * 5 + 4, none⟩ = some u4) ∧ ∀ o, W.frozen? ⟨WA.heap.size, o, none⟩ = false := by
  obtain ⟨cs, hc, hsz, -⟩ := h.hd
  refine ⟨⟨cs[i * 5]'(by omega), cs[i * 5 + 1]'(by omega), cs[i * 5 + 2]'(by omega), cs[i * 5 + 3]'(by omega), cs[i * 5 + 4]'(by omega), ?_, ?_, ?_, ?_, ?_⟩, fun o => by simp [World.frozen?, hc]⟩ <;> (rw [cell_of_row _ _ _ _ _ _ hc]; exact Array.getElem?_eq_getElem _)
theorem OF.at_ {WA W : World} {f : Ef} {i : Nat} {A1 A2 A3 : Nat → Option Addr} {q1 q2 q3 L : Nat → Nat} (h : OF WA W f i A1 A2 A3 q1 q2 q3 L) {j : Nat} (hj : j < i) : W.cell? ⟨WA.heap.size, j * 5, none⟩ = some (.int .i64 f.st) ∧ W.cell? ⟨WA.heap.size, j * 5 + 1, none⟩ = some (.int .i64 f.at_) ∧ W.cell? ⟨WA.heap.size, j * 5 + 2, none⟩ = some (.slice (A1 j) f.td.length (q1 j)) ∧ W.cell? ⟨WA.heap.size, j * 5 + 3, none⟩ = some (.slice (A2 j) f.wr.length (q2 j)) ∧ W.cell? ⟨WA.heap.size, j * 5 + 4, none⟩ = some (.slice (A3 j) f.lk.length (q3 j)) := by
  obtain ⟨cs, hc, hsz, hcs⟩ := h.hd
  obtain ⟨c0, c1, c2, c3, c4⟩ := hcs j hj
  exact ⟨by rw [cell_of_row _ _ _ _ _ _ hc]; exact c0, by rw [cell_of_row _ _ _ _ _ _ hc]; exact c1, by rw [cell_of_row _ _ _ _ _ _ hc]; exact c2, by rw [cell_of_row _ _ _ _ _ _ hc]; exact c3, by rw [cell_of_row _ _ _ _ _ _ hc]; exact c4⟩
theorem of_same {WA W : World} {f : Ef} {i n b : Nat} {A1 A2 A3 : Nat → Option Addr} {q1 q2 q3 L : Nat → Nat} {t1 t2 t3 : Option Addr} {k1 k2 k3 : Nat} (h : OF WA W f i A1 A2 A3 q1 q2 q3 L) (hf : EfB W b f.st f.at_ f.td f.wr f.lk t1 t2 t3 k1 k2 k3) {j : Nat} (hj : j < i) (hE : EndsOk n f) :
    Calls Tryz.prog 12 #[.agg #[.int .i64 f.st, .int .i64 f.at_, .slice (A1 j) f.td.length (q1 j), .slice (A2 j) f.wr.length (q2 j), .slice (A3 j) f.lk.length (q3 j)], .agg #[.int .i64 f.st, .int .i64 f.at_, .slice t1 f.td.length k1, .slice t2 f.wr.length k2, .slice t3 f.lk.length k3]] W fun e w' => e = .returned (.bool true) ∧ Below W.heap.size W w' :=
  same_any f.st f.at_ (A1 j) (A2 j) (A3 j) t1 t2 t3 (q1 j) (q2 j) (q3 j) k1 k2 k3 f.td f.wr f.lk W hE.tdl hE.wrl hE.lkl
    ⟨owns_mono (h.r1 j hj).1 (Nat.zero_le _), owns_mono (h.r2 j hj).1 (Nat.zero_le _), owns_mono (h.r3 j hj).1 (Nat.zero_le _)⟩
    ⟨hf.o1, hf.o2, hf.o3⟩
end Go.Proofs.YthcoigbkdbkojabGreat
