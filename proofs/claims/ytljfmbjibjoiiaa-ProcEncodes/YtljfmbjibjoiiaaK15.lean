import Derived.Test.YtljfmbjibjoiiaaK05
import Derived.Test.YtljfmbjibjoiiaaK01
import Derived.Test.YtljfmbjibjoiiaaK02
import Derived.Laws.AppendOwnNone
import Derived.ProofKit
import Derived.OpenShut
import Derived.Deep.Slices
import Derived.Test.YtljfmbjibjoiiaaK14
import Derived.Test.YtljfmbjibjoiiaaK13
import Derived.Deep.Cut
namespace Go.Proofs.Ytljfmbjibjoiiaa
open Go.RowKit

/-- A slice of bytes, nil or with an address. -/
def Sn (w : World) (v : Value) (bs : List Int) : Prop := Sl w v bs ∧ (v = .slice none 0 0 ∨ ∃ a n c, v = .slice (some a) n c)

theorem sn_nil (w : World) : Sn w (.slice none 0 0) [] := ⟨⟨none, 0, rfl, Nat.le_refl _, fun h => absurd rfl h⟩, .inl rfl⟩

theorem sn_of_owns {w : World} {B : Nat} {v : Value} {bs : List Int} {n : Nat} (h : w.ownsRow B 5 1 v n (B8 bs)) : Sn w v bs := by
  refine ⟨sl_of_owns h, ?_⟩
  rcases h.2 with ⟨rfl, _⟩ | ⟨g, cap, cur, rfl, _⟩
  · exact .inl rfl
  · exact .inr ⟨_, _, _, rfl⟩

theorem Sn.kept {w w' : World} {v : Value} {bs : List Int} {S : Nat → Prop} (h : Sn w v bs) (hk : Kept S w w') (hn : ∀ k, v.ownBlock = some k → ¬ S k) : Sn w' v bs := ⟨h.1.kept hk hn, h.2⟩
theorem Sn.below {w w' : World} {v : Value} {bs : List Int} (h : Sn w v bs) (hk : Below w.heap.size w w') : Sn w' v bs := ⟨h.1.below hk, h.2⟩
theorem Sn.alloc {w : World} {v : Value} {bs : List Int} (h : Sn w v bs) (o : Obj) : Sn (w.alloc o) v bs := h.below ((Below.refl _ _).alloc (Nat.le_refl _) o)

set_option maxRecDepth 100000 in
theorem append_sn (w : World) (ty : TypeId) (B : Nat) (v : Value) (n : Nat) (xs : List Int) (hown : w.ownsRow B 5 1 v n (B8 xs)) (sv : Value) (ys : List Int) (hsn : Sn w sv ys) (hl : n + ys.length ≤ 100000000000) (hbase : B ≤ w.heap.size) :
    ∃ v' w', (Builtin.append_ #[38, 38] ty #[v, sv]).run Try.prog w = .ok v' w' ∧ w'.ownsRow B 5 1 v' (n + ys.length) (B8 (xs ++ ys)) ∧ w.grownBy w' v.ownBlock ∧ (v'.ownBlock = v.ownBlock ∨ v'.ownBlock = some w.heap.size) := by
  obtain ⟨i0, hi, hz0, hz1, hz2⟩ := info_parts Try.info5
  obtain ⟨⟨ao, cap, rfl, hc, hx⟩, hsh⟩ := hsn
  rcases hsh with hsh | ⟨a, m, c, hsh⟩
  · injection hsh with h1 h2 h3
    have hy : ys = [] := List.eq_nil_of_length_eq_zero h2
    subst hy
    subst h1 h3
    refine ⟨v, w, run_append_owned_none (P := Try.prog) (w := w) B 38 ty 5 i0 1 Try.underlying38 hi v n (B8 xs) hown, by simpa using hown, ⟨rfl, rfl, rfl, Nat.le_refl _, fun _ _ _ => rfl⟩, .inl rfl⟩
  · injection hsh with h1 h2 h3
    subst h1 h2 h3
    obtain ⟨v', w', hr, q1, q2, _, q4⟩ := run_append_own_at (P := Try.prog) w B 38 ty 5 i0 (.int .u8 0) 1 1 Try.underlying38 hi hz0 hz1 hz2 rfl (by omega) v n (B8 xs) hown a ys.length cap (B8 ys) (by simp) (by
      intro j u hu
      rw [List.getElem?_map, Option.map_eq_some_iff] at hu
      obtain ⟨y, hy, rfl⟩ := hu
      obtain ⟨b, off, e, hj⟩ := hx (by intro e; subst e; simp at hy)
      injection e with e
      subst e
      rw [add_lit]
      exact hj j y hy) (by intro u hu; obtain ⟨_, _, rfl⟩ := List.mem_map.1 hu; rfl) (by unfold maxLen; omega) (by omega) hbase
    exact ⟨v', w', hr, by simpa using q1, q2, q4⟩

theorem wpList_append_sn (w : World) {ops : Array Oper} {rest : List Oper} {o : Oper} {a : Act} {Q : Exit → Act → World → Prop} (hgd : o.guard = none) (s x : Operand)
    (ho : o.op = .call { callee := .builtin .append, args := #[s, x], argTypes := #[38, 38] }) (B : Nat) (v : Value) (n : Nat) (xs : List Int) (hs : a.eval s = v) (hown : w.ownsRow B 5 1 v n (B8 xs))
    (sv : Value) (ys : List Int) (hx : a.eval x = sv) (hsn : Sn w sv ys) (hl : n + ys.length ≤ 100000000000) (hbase : B ≤ w.heap.size)
    (h : ∀ ao c w', w'.ownsRow B 5 1 (.slice ao (n + ys.length) c) (n + ys.length) (B8 (xs ++ ys)) → w.grownBy w' v.ownBlock → wpList Try.prog ops Q rest (a.put o.dst (.slice ao (n + ys.length) c)) w') : wpList Try.prog ops Q (o :: rest) a w := by
  refine wpList_plain hgd fun K hK => ?_
  obtain ⟨v', w', hr, h2, h3, _⟩ := append_sn w o.type B v n xs hown sv ys hsn hl hbase
  obtain ⟨ao, c, rfl⟩ : ∃ ao c, v' = .slice ao (n + ys.length) c := by
    rcases h2.2 with ⟨e1, e2⟩ | ⟨g, cap, cur, e1, _⟩
    · exact ⟨none, 0, by rw [e1, e2]⟩
    · exact ⟨_, _, e1⟩
  unfold Oper.wp execOp
  simp only [ho, resolve, invoke, builtin, Sem.run_bind, Sem.run_pure, Result.andThen_ok, List.map_toArray, List.map_cons, List.map_nil, hs, hx, hr]
  exact hK _ _ (h ao c w' h2 h3)

set_option maxRecDepth 100000 in
set_option maxHeartbeats 1600000 in
theorem sevens_any (u : Int) (w : World) (hu0 : 0 ≤ u) (hu1 : u < 18446744073709551616) :
    Calls Try.prog 71 #[.int .u64 u] w fun x w' => ∃ v, x = .returned v ∧ Sn w' v (rowF 10 u) ∧ Below w.heap.size w w' := by
  obtain ⟨i0, hi, hz0, hz1, hz2⟩ := info_parts Try.info5
  go_enter Try.func71, Try.ntmps71
  go_wp2
  go_loopw [0, 3] (fun t v wr => ∃ (f : Nat) (u' : Int) (bs : List Int), t = .int .u64 u' ∧ 0 ≤ u' ∧ u' < 18446744073709551616 ∧ wr.ownsRow w.heap.size 5 1 v bs.length (B8 bs) ∧ Hid (bs ++ rowF f u' = rowF 10 u) ∧ bs.length + f = 10 ∧ Hid (u' < 128 ^ (f + 1)) ∧ Below w.heap.size w wr)
    (fun t _ _ => (intOf t).toNat)
  case atStart => exact ⟨10, u, [], rfl, hu0, hu1, World.ownsRow_nil _ _ _ _, hid rfl, rfl, hid (show u < 128 ^ (10 + 1) by omega), Below.refl _ _⟩
  case round =>
    obtain ⟨f, u', bs, rfl, h0, h1, hown, hb, hlen, hpow, hbel⟩ := hrel
    have hsz := hbel.size
    have hlo := hown.lt
    by_cases hc : 128 ≤ u'
    · have a2 : IntKind.u8.wrap (u' % 128) = u' % 128 := by rw [IntKind.wrap_u8]; omega
      have a3 : IntKind.u8.wrap (u' % 128 + 128) = u' % 128 + 128 := by rw [IntKind.wrap_u8]; omega
      go_wp2_with (at_builtin; refine wpList_append_lies _ rfl _ _ _ rfl w.heap.size 5 i0 (.int .u8 0) 1 1 Try.underlying38 hi hz0 hz1 hz2 rfl (by omega) _ bs.length (B8 bs) rfl (hown.alloc _) ⟨wr.heap.size, 0, none⟩ 1 1 [.int .u8 (u' % 128 + 128)] rfl rfl (World.news_of_block (cs := #[.int .u8 (u' % 128 + 128)]) (t := 5) (fr := (0, 0)) (heap_alloc_new wr _)) (by simp [Value.oneCell']) (by omega) (by unfold maxLen; omega) (by omega) (by simp; omega) (wr.heap.size + 1) (by simp) ?_)
      intro g2 cap w1 hown1 hgrow hat hlt
      have hb1 : Below w.heap.size w w1 := (hbel.alloc hsz _).grown hgrow (by simp; omega) (fun k hk => (hlo k hk).1)
      have HO := hid hown1
      clear hown1 hgrow hat hown hlo
      go_wp2
      go_roundw
      case rel =>
        cases f with
        | zero => exact absurd (show 127 < u' by omega) (pow_zero_no u' hpow)
        | succ f =>
          refine ⟨f, u' / 128, bs ++ [u' % 128 + 128], by first | rfl | go_num, by omega, by omega, ?_, hid ?_, by simp; omega, hid (pow_step f u' hpow), hb1⟩
          · have := HO.out
            simpa [B8] using this
          · rw [← hb.out, rowF_more f u' (by omega), List.append_assoc]
      case measure => simp [intOf]; omega
    · have a2 : IntKind.u8.wrap u' = u' := by rw [IntKind.wrap_u8]; omega
      go_wp2_with (at_builtin; refine wpList_append_lies _ rfl _ _ _ rfl w.heap.size 5 i0 (.int .u8 0) 1 1 Try.underlying38 hi hz0 hz1 hz2 rfl (by omega) _ bs.length (B8 bs) rfl (hown.alloc _) ⟨wr.heap.size, 0, none⟩ 1 1 [.int .u8 (u')] rfl rfl (World.news_of_block (cs := #[.int .u8 (u')]) (t := 5) (fr := (0, 0)) (heap_alloc_new wr _)) (by simp [Value.oneCell']) (by omega) (by unfold maxLen; omega) (by omega) (by simp; omega) (wr.heap.size + 1) (by simp) ?_)
      intro g2 cap w1 hown1 hgrow hat hlt
      have hb1 : Below w.heap.size w w1 := (hbel.alloc hsz _).grown hgrow (by simp; omega) (fun k hk => (hlo k hk).1)
      have HO := hid hown1
      clear hown1 hgrow hat hown hlo
      go_wp2
      go_ret
      refine ⟨_, rfl, ?_, hb1⟩
      have := HO.out
      rw [← hb.out, rowF_last f u' (by omega)]
      exact sn_of_owns (B := w.heap.size) (n := bs.length + 1) (by simpa [B8] using this)

end Go.Proofs.Ytljfmbjibjoiiaa

namespace Go.Proofs.Ytljfmbjibjoiiaa
open Go.RowKit

/-- v is a slice of n elements of m cells each, and these are its cells. -/
def Rf (w : World) (m : Nat) (v : Value) (n : Nat) (cs : List Value) : Prop :=
  cs.length = n * m ∧ (∀ u ∈ cs, u.oneCell' = true) ∧ ((v = .slice none 0 0 ∧ n = 0) ∨ ∃ a cap, v = .slice (some a) n cap ∧ n ≤ cap ∧ cap ≤ maxLen ∧ ∀ j u, cs[j]? = some u → w.cell? (a.add j) = some u)

theorem rf_nil (w : World) (m : Nat) : Rf w m (.slice none 0 0) 0 [] := ⟨by simp, (fun _ h => nomatch h), .inl ⟨rfl, rfl⟩⟩

theorem Rf.shape {w : World} {m : Nat} {v : Value} {n : Nat} {cs : List Value} (h : Rf w m v n cs) : ∃ ao cap, v = .slice ao n cap ∧ n ≤ cap ∧ cap ≤ maxLen := by
  rcases h.2.2 with ⟨rfl, rfl⟩ | ⟨a, cap, rfl, h1, h2, _⟩
  · exact ⟨none, 0, rfl, Nat.le_refl _, by simp [maxLen]⟩
  · exact ⟨_, _, rfl, h1, h2⟩

theorem Rf.lits {w : World} {m : Nat} {v : Value} {n : Nat} {cs : List Value} (h : Rf w m v n cs) (h0 : 0 < n) (hm : 0 < m) : ∃ b off cap, v = .slice (some ⟨b, off, none⟩) n cap ∧ n ≤ cap ∧ cap ≤ maxLen ∧ ∀ j u, cs[j]? = some u → w.cell? ⟨b, off + j, none⟩ = some u := by
  obtain ⟨hl, -, h2⟩ := h
  rcases h2 with ⟨rfl, rfl⟩ | ⟨a, cap, rfl, h3, h5, h4⟩
  · omega
  · obtain ⟨b, off, spot⟩ := a
    have hpos : 0 < cs.length := by rw [hl]; exact Nat.mul_pos h0 hm
    have c0 := h4 0 cs[0] (by simp [hpos])
    have hspot : spot = none := by simpa [Addr.add] using World.cell?_spot c0
    subst hspot
    refine ⟨b, off, cap, rfl, h3, h5, fun j u hu => ?_⟩
    have := h4 j u hu
    rwa [add_lit] at this

theorem Rf.kept {w w' : World} {m : Nat} {v : Value} {n : Nat} {cs : List Value} {S : Nat → Prop} (h : Rf w m v n cs) (hk : Kept S w w') (hn : ∀ k, v.ownBlock = some k → ¬ S k) : Rf w' m v n cs := by
  obtain ⟨h0, h1, h2⟩ := h
  refine ⟨h0, h1, ?_⟩
  rcases h2 with h2 | ⟨a, cap, rfl, h3, h5, h4⟩
  · exact .inl h2
  · refine .inr ⟨a, cap, rfl, h3, h5, fun j u hu => hk.cell (h4 j u hu) ?_⟩
    have e : (a.add j).block = a.block := by unfold Addr.add; split <;> rfl
    rw [e]
    exact hn _ rfl

theorem Rf.below {w w' : World} {m : Nat} {v : Value} {n : Nat} {cs : List Value} (h : Rf w m v n cs) (hk : Below w.heap.size w w') : Rf w' m v n cs := h.kept (Kept.ofBelow hk) (fun _ _ h => h)

theorem rf_of_owns {w : World} {B : Nat} {e : TypeId} {m : Nat} {v : Value} {n : Nat} {xs : List Value} (h : w.ownsRow B e m v n xs) (h1 : ∀ u ∈ xs, u.oneCell' = true) : Rf w m v n xs := by
  refine ⟨h.1, h1, ?_⟩
  rcases h.2 with h0 | ⟨g, cap, cur, rfl, hb, hg, hc, hm, hs, ht⟩
  · exact .inl h0
  · refine .inr ⟨_, cap, rfl, hc, hm, fun j u hu => ?_⟩
    exact h.cells (g := g) rfl j u hu

theorem Rf.sl {w : World} {v : Value} {bs : List Int} {n : Nat} (h : Rf w 1 v n (B8 bs)) : Sn w v bs := by
  have hl : bs.length = n := by simpa using h.1
  subst hl
  rcases Nat.eq_zero_or_pos bs.length with h0 | h0
  · obtain ⟨-, -, h2⟩ := h
    have hb : bs = [] := List.eq_nil_of_length_eq_zero h0
    subst hb
    rcases h2 with ⟨rfl, _⟩ | ⟨a, cap, rfl, h3, _⟩
    · exact sn_nil w
    · exact ⟨⟨_, cap, rfl, h3, fun h => absurd rfl h⟩, .inr ⟨_, _, _, rfl⟩⟩
  · obtain ⟨b, off, cap, rfl, h3, h5, h4⟩ := h.lits h0 (by omega)
    exact ⟨⟨_, cap, rfl, h3, fun _ => ⟨b, off, rfl, fun j x hx => h4 j _ (by simp [B8, hx])⟩⟩, .inr ⟨_, _, _, rfl⟩⟩

/-- Any row onto an owned one. -/
theorem append_rf (w : World) (ty : TypeId) (B : Nat) (t e : TypeId) (z : Value) (m bytes : Nat) (ht : Try.prog.underlying t = some (.slice e)) (hinfo : (Try.prog.info? e).map (fun i => (i.zero, i.size, i.bytes)) = some (some z, m, bytes)) (hzs : z.cells.size = m) (hm : 0 < m)
    (v : Value) (n : Nat) (xs : List Value) (hown : w.ownsRow B e m v n xs) (sv : Value) (k : Nat) (ys : List Value) (hs : Rf w m sv k ys) (hl : (n + k) * bytes ≤ 140737488355328) (hl2 : n + k ≤ maxLen) (hbase : B ≤ w.heap.size) :
    ∃ v' w', (Builtin.append_ #[t, t] ty #[v, sv]).run Try.prog w = .ok v' w' ∧ w'.ownsRow B e m v' (n + k) (xs ++ ys) ∧ w.grownBy w' v.ownBlock ∧ (v'.ownBlock = v.ownBlock ∨ v'.ownBlock = some w.heap.size) := by
  obtain ⟨i0, hi, hz0, hz1, hz2⟩ := info_parts hinfo
  obtain ⟨h0, h1, h2⟩ := hs
  rcases h2 with ⟨rfl, rfl⟩ | ⟨a, cap, rfl, h3, h5, h4⟩
  · have hy : ys = [] := List.eq_nil_of_length_eq_zero (by simpa using h0)
    subst hy
    exact ⟨v, w, run_append_owned_none (P := Try.prog) (w := w) B t ty e i0 m ht hi v n xs hown, by simpa using hown, ⟨rfl, rfl, rfl, Nat.le_refl _, fun _ _ _ => rfl⟩, .inl rfl⟩
  · obtain ⟨v', w', hr, q1, q2, _, q4⟩ := run_append_own_at (P := Try.prog) w B t ty e i0 z m bytes ht hi hz0 hz1 hz2 hzs hm v n xs hown a k cap ys h0 h4 h1 hl2 hl hbase
    exact ⟨v', w', hr, q1, q2, q4⟩

theorem wpList_append_rf (w : World) {ops : Array Oper} {rest : List Oper} {o : Oper} {a : Act} {Q : Exit → Act → World → Prop} (hgd : o.guard = none) (s x : Operand) (t e : TypeId) (z : Value) (m bytes : Nat)
    (ho : o.op = .call { callee := .builtin .append, args := #[s, x], argTypes := #[t, t] }) (ht : Try.prog.underlying t = some (.slice e)) (hinfo : (Try.prog.info? e).map (fun i => (i.zero, i.size, i.bytes)) = some (some z, m, bytes)) (hzs : z.cells.size = m) (hm : 0 < m)
    (B : Nat) (v : Value) (n : Nat) (xs : List Value) (hs : a.eval s = v) (hown : w.ownsRow B e m v n xs)
    (sv : Value) (k : Nat) (ys : List Value) (hx : a.eval x = sv) (hsn : Rf w m sv k ys) (hl : (n + k) * bytes ≤ 140737488355328) (hl2 : n + k ≤ maxLen) (hbase : B ≤ w.heap.size)
    (h : ∀ ao c w', Hid (w'.ownsRow B e m (.slice ao (n + k) c) (n + k) (xs ++ ys)) → Hid (w.grownBy w' v.ownBlock) → Hid ((Value.slice ao (n + k) c).ownBlock = v.ownBlock ∨ (Value.slice ao (n + k) c).ownBlock = some w.heap.size) → wpList Try.prog ops Q rest (a.put o.dst (.slice ao (n + k) c)) w') : wpList Try.prog ops Q (o :: rest) a w := by
  refine wpList_plain hgd fun K hK => ?_
  obtain ⟨v', w', hr, h2, h3, h4⟩ := append_rf w o.type B t e z m bytes ht hinfo hzs hm v n xs hown sv k ys hsn hl hl2 hbase
  obtain ⟨ao, c, rfl⟩ := own_shape h2
  unfold Oper.wp execOp
  simp only [ho, resolve, invoke, builtin, Sem.run_bind, Sem.run_pure, Result.andThen_ok, List.map_toArray, List.map_cons, List.map_nil, hs, hx, hr]
  exact hK _ _ (h ao c w' (hid h2) (hid h3) (hid h4))

theorem step_append_rf (w : World) {ops : Array Oper} {o : Oper} {a : Act} {K : Act → World → Prop} {Q : Exit → Act → World → Prop} {E : Prop} (hgd : o.guard = none) (s x : Operand) (t e : TypeId) (z : Value) (m bytes : Nat)
    (ho : o.op = .call { callee := .builtin .append, args := #[s, x], argTypes := #[t, t] }) (ht : Try.prog.underlying t = some (.slice e)) (hinfo : (Try.prog.info? e).map (fun i => (i.zero, i.size, i.bytes)) = some (some z, m, bytes)) (hzs : z.cells.size = m) (hm : 0 < m)
    (B : Nat) (v : Value) (n : Nat) (xs : List Value) (hs : a.eval s = v) (hown : w.ownsRow B e m v n xs)
    (sv : Value) (k : Nat) (ys : List Value) (hx : a.eval x = sv) (hsn : Rf w m sv k ys) (hl : (n + k) * bytes ≤ 140737488355328) (hl2 : n + k ≤ maxLen) (hbase : B ≤ w.heap.size)
    (h : ∀ ao c w', Hid (w'.ownsRow B e m (.slice ao (n + k) c) (n + k) (xs ++ ys)) → Hid (w.grownBy w' v.ownBlock) → Hid ((Value.slice ao (n + k) c).ownBlock = v.ownBlock ∨ (Value.slice ao (n + k) c).ownBlock = some w.heap.size) → K (a.put o.dst (.slice ao (n + k) c)) w') :
    if Region.wanted o (yielded ops a.tmps) = true then Oper.wp Try.prog o a w K Q else E := by
  have hw : Region.wanted o (yielded ops a.tmps) = true := by simp [Region.wanted, hgd]
  rw [if_pos hw]
  obtain ⟨v', w', hr, h2, h3, h4⟩ := append_rf w o.type B t e z m bytes ht hinfo hzs hm v n xs hown sv k ys hsn hl hl2 hbase
  obtain ⟨ao, c, rfl⟩ := own_shape h2
  unfold Oper.wp execOp
  simp only [ho, resolve, invoke, builtin, Sem.run_bind, Sem.run_pure, Result.andThen_ok, List.map_toArray, List.map_cons, List.map_nil, hs, hx, hr]
  exact h ao c w' (hid h2) (hid h3) (hid h4)

/-- The cells of one element of a flat row. -/
theorem flat_get {α : Type} (f : α → List Value) (m : Nat) (hf : ∀ x, (f x).length = m) : ∀ (xs : List α) (k c : Nat), c < m → (xs.flatMap f)[k * m + c]? = (xs[k]?).bind (fun x => (f x)[c]?)
  | [], k, c, _ => by simp
  | x :: xs, 0, c, h => by simp [List.getElem?_append_left, hf, h]
  | x :: xs, k + 1, c, h => by
    have ih := flat_get f m hf xs k c h
    rw [List.flatMap_cons, List.getElem?_append_right (by rw [hf, Nat.succ_mul]; omega), hf]
    have e : (k + 1) * m + c - m = k * m + c := by rw [Nat.succ_mul]; omega
    rw [e, ih]
    simp

theorem flat_len {α : Type} (f : α → List Value) (m : Nat) (hf : ∀ x, (f x).length = m) : ∀ xs : List α, (xs.flatMap f).length = xs.length * m
  | [] => by simp
  | x :: xs => by rw [List.flatMap_cons, List.length_append, hf, flat_len f m hf xs, List.length_cons, Nat.succ_mul]; omega

theorem add_add (a : Addr) (x y : Nat) : (a.add x).add y = a.add (x + y) := by
  unfold Addr.add
  by_cases hx : x = 0
  · subst hx; simp
  · by_cases hy : y = 0
    · subst hy; simp
    · simp [hx, hy, Nat.add_assoc]

/-- A slice whose elements are read, element by element. -/
theorem rf_of_trod {H : Type} {enc : TypeId × Value → H} {W : World} {base : Nat} {held : Bool} {fuel : Nat} {t e : TypeId} {cs : List Value} {x : DataW H × List MemPlace} {α : Type} [Inhabited α] (f : α → List Value) (p : α → Prop) (m : Nat) (hf : ∀ y, (f y).length = m) (h1 : ∀ y, ∀ u ∈ f y, u.oneCell' = true)
    (ht : Try.prog.underlying t = some (.slice e)) (hm : Try.prog.cellsOf e = m) (hel : ∀ n cs' x', DataW.trod enc Try.prog W base (fun _ => true) held n e cs' = some x' → ∃ y : α, p y ∧ cs' = f y)
    (h : DataW.trod enc Try.prog W base (fun _ => true) held fuel t cs = some x) : ∃ (v : Value) (ys : List α), cs = [v] ∧ Rf W m v ys.length (ys.flatMap f) ∧ ∀ y ∈ ys, p y := by
  rcases Go.Deep.open_slice ht h with ⟨rfl, _⟩ | ⟨a, len, cap, mm, n, D, Pl, rfl, _, hl, hcm, hmm, _, hx⟩
  · exact ⟨_, [], rfl, rf_nil W m, (fun _ h => nomatch h)⟩
  · simp only [if_true] at hmm
    subst hmm
    rw [hm] at hx
    have key : ∀ i, i < len → ∃ y : α, p y ∧ ∀ c, c < m → W.cell? ((a.add (i * m)).add c) = (f y)[c]? := by
      intro i hi
      obtain ⟨cs', q1, q2⟩ := hx i (by omega)
      obtain ⟨y, hy, rfl⟩ := hel _ _ _ q2
      exact ⟨y, hy, fun c hc => (World.cells?_some q1).2.2 c hc⟩
    obtain ⟨F, hF⟩ := Go.Deep.choose_lt key
    refine ⟨_, (List.range len).map F, rfl, ⟨flat_len f m hf _, ?_, .inr ⟨a, mm, by simp, by simpa using hl, hcm, ?_⟩⟩, ?_⟩
    · intro u hu
      obtain ⟨y, _, hy⟩ := List.mem_flatMap.1 hu
      exact h1 y u hy
    · intro j u hu
      have hmp : 0 < m := by
        rcases Nat.eq_zero_or_pos m with h0 | h0
        · have hz := flat_len f m hf ((List.range len).map F)
          rw [h0, Nat.mul_zero] at hz
          rw [List.eq_nil_of_length_eq_zero hz] at hu
          simp at hu
        · exact h0
      have hj : j = j / m * m + j % m := by rw [Nat.mul_comm]; exact (Nat.div_add_mod j m).symm
      have hc : j % m < m := Nat.mod_lt _ hmp
      rw [hj, flat_get f m hf _ _ _ hc] at hu
      rw [List.getElem?_map] at hu
      have hlt : j / m < len := by
        rcases Nat.lt_or_ge (j / m) len with h | h
        · exact h
        · rw [List.getElem?_eq_none (by simpa using h)] at hu
          simp at hu
      simp [hlt] at hu
      have := (hF (j / m) hlt).2 (j % m) hc
      rw [hu, add_add, ← hj] at this
      exact this
    · intro y hy
      simp at hy
      obtain ⟨i, hi, rfl⟩ := hy
      exact (hF i hi).1

end Go.Proofs.Ytljfmbjibjoiiaa

namespace Go.Proofs.Ytljfmbjibjoiiaa
open Go.RowKit Go.Lib

def stopI : Ins := ⟨16, 0, 0, 0, 0, 0, 0, emp⟩
def tellI : Ins := ⟨15, 15, 0, 0, 0, 0, 0, emp⟩
def p1 : ByteArray := ⟨#[112]⟩
def p2 : ByteArray := ⟨#[113, 46, 45, 95, 57]⟩

theorem stop_err (ar bh : Int) : insErr stopI ar bh = 0 := by
  simp [insErr, stopI, opErr, opN, opF, chkF, chk]

theorem tell_err (ar bh : Int) : insErr tellI ar bh = 0 := by
  simp [insErr, tellI, opErr, opN, opF, chkF, chk, Fk.fits, Fk.get, Fk.set, withinB]

theorem stops_chk (ar : Int) (len : Nat) : ∀ (m i : Nat), codeChk ar len i (List.replicate m stopI) = (0, 0) := by
  intro m
  induction m with
  | zero => intro i; rfl
  | succ m ih => intro i; rw [List.replicate_succ, codeChk, if_pos (stop_err _ _)]; exact ih _

theorem plain_err (x : Ins) (hk : x.k = 0) (hi : x.i = 0) (ht : x.t = emp) (ar bh : Int) : insErr x ar bh = 0 ∨ insErr x ar bh = 16 := by
  unfold insErr
  split
  · unfold opErr
    split
    · exact .inr rfl
    · split
      · left; rw [hk, hi, ht]; simp [chk]
      · exact .inr rfl
  · exact .inr rfl

theorem edge_one (x : Ins) (ar : Int) (h0 : 0 ≤ ar) (h1 : ar ≤ 16) (m : Nat) (hm : m ≤ 60) : procChk p1 ar (x :: List.replicate m stopI) = (0, insErr x ar m) := by
  have e1 : nameB p1 = true := by decide
  have e2 : withinB ar 0 16 = true := by simp [withinB, h0, h1]
  rw [procChk, if_pos e1, if_pos e2, if_pos (by simp; omega), codeChk]
  have e3 : (((x :: List.replicate m stopI).length : Nat) : Int) - 1 - (0 : Nat) = (m : Int) := by simp
  rw [e3]
  split
  · rename_i h; rw [h]; exact stops_chk _ _ _ _
  · rfl

theorem edge_two (x : Ins) (ar : Int) (h0 : 0 ≤ ar) (h1 : ar ≤ 16) (m : Nat) (hm : m ≤ 60) : procChk p2 ar (tellI :: x :: List.replicate m stopI) = (if insErr x ar m = 0 then 0 else 1, insErr x ar m) := by
  have e1 : nameB p2 = true := by decide
  have e2 : withinB ar 0 16 = true := by simp [withinB, h0, h1]
  rw [procChk, if_pos e1, if_pos e2, if_pos (by simp; omega), codeChk, if_pos (tell_err _ _), codeChk]
  have e3 : (((tellI :: x :: List.replicate m stopI).length : Nat) : Int) - 1 - ((0 + 1 : Nat) : Int) = (m : Int) := by simp <;> omega
  rw [e3]
  split
  · rename_i h; rw [h]; exact stops_chk _ _ _ _
  · rfl

theorem ins_cells (x : Ins) : x.cells.length = 8 := rfl
theorem ins_one (x : Ins) : ∀ u ∈ x.cells, u.oneCell' = true := by
  intro u hu
  simp only [Ins.cells, List.mem_cons, List.mem_nil_iff, or_false] at hu
  rcases hu with rfl | rfl | rfl | rfl | rfl | rfl | rfl | rfl <;> rfl

theorem Try.info28z : (Try.prog.info? 28).map (fun i => (i.zero, i.size, i.bytes)) = some (some (.agg zCells), 8, 72) := by kernel_rfl

theorem code_of_rf {w : World} {v : Value} {xs : List Ins} (h : Rf w 8 v xs.length (xs.flatMap Ins.cells)) : CodeAt w v xs := by
  obtain ⟨ao, cap, hv, hc, _⟩ := h.shape
  refine ⟨ao, cap, hv, hc, fun hne => ?_⟩
  obtain ⟨b, off, cap', hv', _, _, hcell⟩ := h.lits (List.length_pos_iff.2 hne) (by decide)
  rw [hv] at hv'
  injection hv' with hv1 _ _
  refine ⟨b, off, hv1, fun j x hx => ?_⟩
  have hg : ∀ m, m < 8 → w.cell? ⟨b, off + j * 8 + m, none⟩ = x.cells[m]? := by
    intro m hm
    have e := flat_get Ins.cells 8 ins_cells xs j m hm
    rw [hx] at e
    have hm2 : m < x.cells.length := hm
    have e2 : x.cells[m]? = some x.cells[m] := List.getElem?_eq_getElem hm2
    rw [Option.bind_some, e2] at e
    rw [e2, Nat.add_assoc]
    exact hcell _ _ e
  exact ⟨hg 0 (by decide), hg 1 (by decide), hg 2 (by decide), hg 3 (by decide), hg 4 (by decide), hg 5 (by decide), hg 6 (by decide), hg 7 (by decide)⟩

theorem all_one (xs : List Ins) : ∀ u ∈ xs.flatMap Ins.cells, u.oneCell' = true := by
  intro u hu
  obtain ⟨y, _, hy⟩ := List.mem_flatMap.1 hu
  exact ins_one y u hy

/-- While the first list is made. -/
structure Egs (w W : World) (ar : Int) (S : Value) (xs : List Ins) (r : Nat) : Prop where
  r0 : W.heap[r]? = some (po p1 ar S)
  ow : W.ownsRow (w.heap.size + 1) 28 8 S xs.length (xs.flatMap Ins.cells)
  hb : Below w.heap.size w W
  lt : w.heap.size < r

theorem owns_new (w : World) (B : Nat) (x : Ins) (hB : B ≤ w.heap.size) : (w.alloc (io x.op x.a x.b x.c x.n x.k x.i x.t)).ownsRow B 28 8 (.slice (some ⟨w.heap.size, 0, none⟩) 1 1) [x].length ([x].flatMap Ins.cells) := by
  refine ⟨by simp [Ins.cells], .inr ⟨w.heap.size, 1, _, rfl, hB, heap_alloc_new w _, Nat.le_refl _, by decide, by simp, ?_⟩⟩
  simp [Ins.cells]

theorem egs_start (w : World) (ar : Int) (x : Ins) : Egs w (((w.alloc (io x.op x.a x.b x.c x.n x.k x.i x.t)).alloc (io x.op x.a x.b x.c x.n x.k x.i x.t)).alloc (po p1 ar (.slice (some ⟨w.heap.size + 1, 0, none⟩) 1 1))) ar (.slice (some ⟨w.heap.size + 1, 0, none⟩) 1 1) [x] (w.heap.size + 1 + 1) := by
  have hz : (w.alloc (io x.op x.a x.b x.c x.n x.k x.i x.t)).heap.size = w.heap.size + 1 := by simp
  have h1 := owns_new (w.alloc (io x.op x.a x.b x.c x.n x.k x.i x.t)) (w.heap.size + 1) x (by simp)
  rw [hz] at h1
  have h3 := (three w (io x.op x.a x.b x.c x.n x.k x.i x.t) (io x.op x.a x.b x.c x.n x.k x.i x.t) (po p1 ar (.slice (some ⟨w.heap.size + 1, 0, none⟩) 1 1)))
  exact ⟨h3.2.2.1, h1.alloc _, h3.2.2.2, by omega⟩

theorem Egs.own {w W : World} {ar : Int} {ao : Option Addr} {cc k : Nat} {x : Ins} {r : Nat} (h : Egs w W ar (.slice ao (k + 1) cc) (x :: List.replicate k stopI) r) : W.ownsRow (w.heap.size + 1) 28 8 (.slice ao (k + 1) cc) (k + 1) ((x :: List.replicate k stopI).flatMap Ins.cells) := by
  have := h.ow
  simpa using this

theorem Egs.base {w W : World} {ar : Int} {S : Value} {xs : List Ins} {r : Nat} (h : Egs w W ar S xs r) (o : Obj) : w.heap.size + 1 ≤ (W.alloc o).heap.size := by
  have := h.hb.size
  simp
  omega

theorem rf_stop (w : World) : Rf (w.alloc (.cells #[.int .i64 16, .int .i64 0, .int .i64 0, .int .i64 0, .int .i64 0, .int .i64 0, .int .i64 0, .string emp] 28)) 8 (.slice (some ⟨w.heap.size, 0, none⟩) 1 1) 1 ([stopI].flatMap Ins.cells) :=
  rf_of_owns (owns_new w 0 stopI (Nat.zero_le _)) (all_one _)

theorem Egs.grow {w W W1 : World} {ar : Int} {ao ao1 : Option Addr} {cc c1 k : Nat} {x : Ins} {r : Nat} {o : Obj} (h : Egs w W ar (.slice ao (k + 1) cc) (x :: List.replicate k stopI) r)
    (hown : W1.ownsRow (w.heap.size + 1) 28 8 (.slice ao1 (k + 1 + 1) c1) (k + 1 + 1) ((x :: List.replicate k stopI).flatMap Ins.cells ++ [stopI].flatMap Ins.cells)) (hg : (W.alloc o).grownBy W1 (Value.slice ao (k + 1) cc).ownBlock) :
    W1.heap[r]? = some (po p1 ar (.slice ao (k + 1) cc)) ∧ Egs w (W1.setCell ⟨r, 2, none⟩ (.slice ao1 (k + 1 + 1) c1)) ar (.slice ao1 (k + 1 + 1) c1) (x :: List.replicate (k + 1) stopI) r := by
  have h1 : (W.alloc o).heap[r]? = some (po p1 ar (.slice ao (k + 1) cc)) := (Below.heap_alloc _ _ _ (lt_of h.r0)).trans h.r0
  have hne : (Value.slice ao (k + 1) cc).ownBlock ≠ some r := by
    intro e
    rcases h.ow.2 with ⟨e1, _⟩ | ⟨g, cap, cur, e1, _, hgg, _⟩
    · injection e1 with e1 _ _; rw [e1] at e; simp [Value.ownBlock] at e
    · injection e1 with e1 _ _
      rw [e1] at e
      simp [Value.ownBlock] at e
      rw [e, h.r0] at hgg
      simp at hgg
  have h2 : W1.heap[r]? = some (po p1 ar (.slice ao (k + 1) cc)) := (hg.block r (lt_of h1) (fun e => hne e.symm)).trans h1
  have hb1 : Below w.heap.size w W1 := (h.hb.alloc h.hb.size o).grown hg (h.hb.alloc h.hb.size o).size (fun q hq => by have := (h.own.lt q hq).1; omega)
  have hne2 : (Value.slice ao1 (k + 1 + 1) c1).ownBlock ≠ some r := by
    intro e
    rcases hown.2 with ⟨_, e2⟩ | ⟨g, cap, cur, e1, _, hgg, _⟩
    · omega
    · injection e1 with e1 _ _
      rw [e1] at e
      simp [Value.ownBlock] at e
      rw [e, h2] at hgg
      simp at hgg
  refine ⟨h2, ⟨po_set2 h2, ?_, hb1.setCell (p := ⟨r, 2, none⟩) (Nat.le_of_lt h.lt) _, h.lt⟩⟩
  have e : (x :: List.replicate k stopI).flatMap Ins.cells ++ [stopI].flatMap Ins.cells = (x :: List.replicate (k + 1) stopI).flatMap Ins.cells := by
    rw [← List.flatMap_append, List.cons_append, ← List.replicate_succ']
  rw [e] at hown
  have hk : Kept (fun q => q = r) W1 (W1.setCell ⟨r, 2, none⟩ (.slice ao1 (k + 1 + 1) c1)) := Kept.setCell (p := ⟨r, 2, none⟩) (Kept.refl (fun q => q = r) W1) (fun _ => rfl) _
  have := ownsRow_kept hown hk (fun q hq e => hne2 (by rw [hq, e]))
  simpa using this

theorem Egs.below {w W W' : World} {ar : Int} {S : Value} {xs : List Ins} {r : Nat} (h : Egs w W ar S xs r) (hb : Below W.heap.size W W') : Egs w W' ar S xs r :=
  ⟨blk_of hb h.r0 (lt_of h.r0), ownsRow_kept h.ow (Kept.ofBelow hb) (fun _ _ h => h), below_on h.hb hb, h.lt⟩

theorem Egs.code {w W : World} {ar : Int} {S : Value} {xs : List Ins} {r : Nat} (h : Egs w W ar S xs r) : CodeAt W S xs := code_of_rf (rf_of_owns h.ow (all_one _))

theorem own_tell (w : World) : (w.alloc (.cells #[.int .i64 15, .int .i64 15, .int .i64 0, .int .i64 0, .int .i64 0, .int .i64 0, .int .i64 0, .string emp] 28)).ownsRow w.heap.size 28 8 (.slice (some ⟨w.heap.size, 0, none⟩) 1 1) 1 ([tellI].flatMap Ins.cells) :=
  owns_new w w.heap.size tellI (Nat.le_refl _)

theorem Egs.two {w W W2 : World} {ar : Int} {ao ao2 : Option Addr} {cc c2 k : Nat} {x : Ins} {r : Nat} {o : Obj} {v : Value} (h : Egs w W ar (.slice ao (k + 1) cc) (x :: List.replicate k stopI) r)
    (hown : W2.ownsRow W.heap.size 28 8 (.slice ao2 (1 + (k + 1)) c2) (1 + (k + 1)) ([tellI].flatMap Ins.cells ++ (x :: List.replicate k stopI).flatMap Ins.cells)) (hg : (W.alloc o).grownBy W2 v.ownBlock)
    (hv : v.ownBlock = some W.heap.size := by rfl) :
    Egs w W2 ar (.slice ao (k + 1) cc) (x :: List.replicate k stopI) r ∧ CodeAt W2 (.slice ao2 (1 + (k + 1)) c2) (tellI :: x :: List.replicate k stopI) := by
  have hb : Below W.heap.size W W2 := (below1 W o).trans ((Below.refl _ _).grown hg (by simp) (fun q hq => by rw [hv] at hq; have := Option.some.inj hq; omega))
  refine ⟨h.below hb, code_of_rf ?_⟩
  have := rf_of_owns hown (by
    intro u hu
    rw [← List.flatMap_append] at hu
    exact all_one _ u hu)
  rw [← List.flatMap_append] at this
  simpa [Nat.add_comm] using this

theorem twos {w w2 w3 : World} {ar : Int} {ao ao2 : Option Addr} {cc c2 k : Nat} {x : Ins} {r : Nat} {o : Obj} (h : Egs w w2 ar (.slice ao (k + 1) cc) (x :: List.replicate k stopI) r ∧ CodeAt w2 (.slice ao2 (1 + (k + 1)) c2) (tellI :: x :: List.replicate k stopI))
    (hb : Below (w2.alloc o).heap.size (w2.alloc o) w3) : w3.heap[w2.heap.size]? = some o ∧ CodeAt w3 (.slice ao2 (1 + (k + 1)) c2) (tellI :: x :: List.replicate k stopI) ∧ Below w.heap.size w w3 :=
  ⟨blk_of hb (heap_alloc_new w2 o) (by simp), (h.2.below (below1 w2 o)).below hb, below_on h.1.hb (below_on (below1 w2 o) hb)⟩

end Go.Proofs.Ytljfmbjibjoiiaa
