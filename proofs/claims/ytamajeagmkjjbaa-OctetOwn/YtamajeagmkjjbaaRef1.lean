import Derived.Test.YtamajeagmkjjbaaSl2
import Derived.Test.YtamajeagmkjjbaaWrow
import Derived.Test.YtamajeagmkjjbaaW1
import Derived.Laws.AppendOwnNone
namespace Go.Proofs.Ytamajeagmkjjbaa
open Go.RowKit

/-- A slice of bytes, nil or with an address. -/
def Sn (w : World) (v : Value) (bs : List Int) : Prop := Sl w v bs ∧ (v = .slice none 0 0 ∨ ∃ a n c, v = .slice (some a) n c)

theorem sn_nil (w : World) : Sn w (.slice none 0 0) [] := ⟨⟨none, 0, rfl, Nat.le_refl _, fun h => absurd rfl h⟩, .inl rfl⟩

theorem sn_of_owns {w : World} {B : Nat} {v : Value} {bs : List Int} {n : Nat} (h : w.ownsRow B 5 1 v n (B8 bs)) : Sn w v bs := by
  refine ⟨sl_of_owns h, ?_⟩
  rcases h.2 with ⟨rfl, _⟩ | ⟨g, cap, cur, rfl, _⟩
  · exact .inl rfl
  · exact .inr ⟨_, _, _, rfl⟩

theorem Sn.kept {w w' : World} {v : Value} {bs : List Int} {S : Nat → Prop} (h : Sn w v bs) (hk : Kept S w w') (hn : ∀ k, v.ownBlock = some k → ¬ S k) : Sn w' v bs := ⟨h.1.kept hk hn, h.2⟩
theorem Sn.below {w w' : World} {v : Value} {bs : List Int} (h : Sn w v bs) (hk : Below w.heap.size w w') : Sn w' v bs := ⟨h.1.below hk, h.2⟩
theorem Sn.alloc {w : World} {v : Value} {bs : List Int} (h : Sn w v bs) (o : Obj) : Sn (w.alloc o) v bs := h.below ((Below.refl _ _).alloc (Nat.le_refl _) o)

theorem append_sn (w : World) (ty : TypeId) (B : Nat) (v : Value) (n : Nat) (xs : List Int) (hown : w.ownsRow B 5 1 v n (B8 xs)) (sv : Value) (ys : List Int) (hsn : Sn w sv ys) (hl : n + ys.length ≤ 100000000000) (hbase : B ≤ w.heap.size) :
    ∃ v' w', (Builtin.append_ #[26, 26] ty #[v, sv]).run Try.prog w = .ok v' w' ∧ w'.ownsRow B 5 1 v' (n + ys.length) (B8 (xs ++ ys)) ∧ w.grownBy w' v.ownBlock ∧ (v'.ownBlock = v.ownBlock ∨ v'.ownBlock = some w.heap.size) := by
  obtain ⟨i0, hi, hz0, hz1, hz2⟩ := info_parts Try.info5
  obtain ⟨⟨ao, cap, rfl, hc, hx⟩, hsh⟩ := hsn
  rcases hsh with hsh | ⟨a, m, c, hsh⟩
  · injection hsh with h1 h2 h3
    have hy : ys = [] := List.eq_nil_of_length_eq_zero h2
    subst hy
    subst h1 h3
    refine ⟨v, w, run_append_owned_none (P := Try.prog) (w := w) B 26 ty 5 i0 1 Try.underlying26 hi v n (B8 xs) hown, by simpa using hown, ⟨rfl, rfl, rfl, Nat.le_refl _, fun _ _ _ => rfl⟩, .inl rfl⟩
  · injection hsh with h1 h2 h3
    subst h1 h2 h3
    obtain ⟨v', w', hr, q1, q2, _, q4⟩ := run_append_own_at (P := Try.prog) w B 26 ty 5 i0 (.int .u8 0) 1 1 Try.underlying26 hi hz0 hz1 hz2 rfl (by omega) v n (B8 xs) hown a ys.length cap (B8 ys) (by simp) (by
      intro j u hu
      rw [List.getElem?_map, Option.map_eq_some_iff] at hu
      obtain ⟨y, hy, rfl⟩ := hu
      obtain ⟨b, off, e, hj⟩ := hx (by intro e; subst e; simp at hy)
      injection e with e
      subst e
      rw [add_lit]
      exact hj j y hy) (by intro u hu; obtain ⟨_, _, rfl⟩ := List.mem_map.1 hu; rfl) (by unfold maxLen; omega) (by omega) hbase
    exact ⟨v', w', hr, by simpa using q1, q2, q4⟩

theorem wpList_append_sn (w : World) {ops : Array Oper} {rest : List Oper} {o : Oper} {a : Act} {Q : Exit → Act → World → Prop} (hgd : o.guard = none) (s x : Operand)
    (ho : o.op = .call { callee := .builtin .append, args := #[s, x], argTypes := #[26, 26] }) (B : Nat) (v : Value) (n : Nat) (xs : List Int) (hs : a.eval s = v) (hown : w.ownsRow B 5 1 v n (B8 xs))
    (sv : Value) (ys : List Int) (hx : a.eval x = sv) (hsn : Sn w sv ys) (hl : n + ys.length ≤ 100000000000) (hbase : B ≤ w.heap.size)
    (h : ∀ ao c w', w'.ownsRow B 5 1 (.slice ao (n + ys.length) c) (n + ys.length) (B8 (xs ++ ys)) → w.grownBy w' v.ownBlock → wpList Try.prog ops Q rest (a.put o.dst (.slice ao (n + ys.length) c)) w') : wpList Try.prog ops Q (o :: rest) a w := by
  refine wpList_plain hgd fun K hK => ?_
  obtain ⟨v', w', hr, h2, h3, _⟩ := append_sn w o.type B v n xs hown sv ys hsn hl hbase
  obtain ⟨ao, c, rfl⟩ : ∃ ao c, v' = .slice ao (n + ys.length) c := by
    rcases h2.2 with ⟨e1, e2⟩ | ⟨g, cap, cur, e1, _⟩
    · exact ⟨none, 0, by rw [e1, e2]⟩
    · exact ⟨_, _, e1⟩
  unfold Oper.wp execOp
  simp only [ho, resolve, invoke, builtin, Sem.run_bind, Sem.run_pure, Result.andThen_ok, List.map_toArray, List.map_cons, List.map_nil, hs, hx, hr]
  exact hK _ _ (h ao c w' h2 h3)

set_option maxRecDepth 100000 in
set_option maxHeartbeats 1600000 in
theorem sevens_any (u : Int) (w : World) (hu0 : 0 ≤ u) (hu1 : u < 18446744073709551616) :
    Calls Try.prog 57 #[.int .u64 u] w fun x w' => ∃ v, x = .returned v ∧ Sn w' v (rowF 10 u) ∧ Below w.heap.size w w' := by
  obtain ⟨i0, hi, hz0, hz1, hz2⟩ := info_parts Try.info5
  go_enter Try.func57, Try.ntmps57
  go_wp2
  go_loopw [0, 3] (fun t v wr => ∃ (f : Nat) (u' : Int) (bs : List Int), t = .int .u64 u' ∧ 0 ≤ u' ∧ u' < 18446744073709551616 ∧ wr.ownsRow w.heap.size 5 1 v bs.length (B8 bs) ∧ Hid (bs ++ rowF f u' = rowF 10 u) ∧ bs.length + f = 10 ∧ Hid (u' < 128 ^ (f + 1)) ∧ Below w.heap.size w wr)
    (fun t _ _ => (intOf t).toNat)
  case atStart => exact ⟨10, u, [], rfl, hu0, hu1, World.ownsRow_nil _ _ _ _, hid rfl, rfl, hid (show u < 128 ^ (10 + 1) by omega), Below.refl _ _⟩
  case round =>
    obtain ⟨f, u', bs, rfl, h0, h1, hown, hb, hlen, hpow, hbel⟩ := hrel
    have hsz := hbel.size
    have hlo := hown.lt
    by_cases hc : 128 ≤ u'
    · have a2 : IntKind.u8.wrap (u' % 128) = u' % 128 := by rw [IntKind.wrap_u8]; omega
      have a3 : IntKind.u8.wrap (u' % 128 + 128) = u' % 128 + 128 := by rw [IntKind.wrap_u8]; omega
      go_wp2_with (at_builtin; refine wpList_append_lies _ rfl _ _ _ rfl w.heap.size 5 i0 (.int .u8 0) 1 1 Try.underlying26 hi hz0 hz1 hz2 rfl (by omega) _ bs.length (B8 bs) rfl (hown.alloc _) ⟨wr.heap.size, 0, none⟩ 1 1 [.int .u8 (u' % 128 + 128)] rfl rfl (World.news_of_block (cs := #[.int .u8 (u' % 128 + 128)]) (t := 5) (fr := (0, 0)) (heap_alloc_new wr _)) (by simp [Value.oneCell']) (by omega) (by unfold maxLen; omega) (by omega) (by simp; omega) (wr.heap.size + 1) (by simp) ?_)
      intro g2 cap w1 hown1 hgrow hat hlt
      have hb1 : Below w.heap.size w w1 := (hbel.alloc hsz _).grown hgrow (by simp; omega) (fun k hk => (hlo k hk).1)
      have HO := hid hown1
      clear hown1 hgrow hat hown hlo
      go_wp2
      go_roundw
      case rel =>
        cases f with
        | zero => exact absurd (show 127 < u' by omega) (pow_zero_no u' hpow)
        | succ f =>
          refine ⟨f, u' / 128, bs ++ [u' % 128 + 128], by first | rfl | go_num, by omega, by omega, ?_, hid ?_, by simp; omega, hid (pow_step f u' hpow), hb1⟩
          · have := HO.out
            simpa [B8] using this
          · rw [← hb.out, rowF_more f u' (by omega), List.append_assoc]
      case measure => simp [intOf]; omega
    · have a2 : IntKind.u8.wrap u' = u' := by rw [IntKind.wrap_u8]; omega
      go_wp2_with (at_builtin; refine wpList_append_lies _ rfl _ _ _ rfl w.heap.size 5 i0 (.int .u8 0) 1 1 Try.underlying26 hi hz0 hz1 hz2 rfl (by omega) _ bs.length (B8 bs) rfl (hown.alloc _) ⟨wr.heap.size, 0, none⟩ 1 1 [.int .u8 (u')] rfl rfl (World.news_of_block (cs := #[.int .u8 (u')]) (t := 5) (fr := (0, 0)) (heap_alloc_new wr _)) (by simp [Value.oneCell']) (by omega) (by unfold maxLen; omega) (by omega) (by simp; omega) (wr.heap.size + 1) (by simp) ?_)
      intro g2 cap w1 hown1 hgrow hat hlt
      have hb1 : Below w.heap.size w w1 := (hbel.alloc hsz _).grown hgrow (by simp; omega) (fun k hk => (hlo k hk).1)
      have HO := hid hown1
      clear hown1 hgrow hat hown hlo
      go_wp2
      go_ret
      refine ⟨_, rfl, ?_, hb1⟩
      have := HO.out
      rw [← hb.out, rowF_last f u' (by omega)]
      exact sn_of_owns (B := w.heap.size) (n := bs.length + 1) (by simpa [B8] using this)

end Go.Proofs.Ytamajeagmkjjbaa
