import Derived.Test.YtiammlngbejhkaaK04
import Derived.Test.YtiammlngbejhkaaK03
import Derived.Laws.AppendOwnNone
import Derived.Test.YtiammlngbejhkaaK12
import Derived.Test.YtiammlngbejhkaaK09
import Derived.Deep.Cut
namespace Go.Proofs.Ytiammlngbejhkaa
open Go.RowKit

/-- A slice of bytes, nil or with an address. -/
def Sn (w : World) (v : Value) (bs : List Int) : Prop := Sl w v bs ∧ (v = .slice none 0 0 ∨ ∃ a n c, v = .slice (some a) n c)

theorem sn_nil (w : World) : Sn w (.slice none 0 0) [] := ⟨⟨none, 0, rfl, Nat.le_refl _, fun h => absurd rfl h⟩, .inl rfl⟩

theorem sn_of_owns {w : World} {B : Nat} {v : Value} {bs : List Int} {n : Nat} (h : w.ownsRow B 5 1 v n (B8 bs)) : Sn w v bs := by
  refine ⟨sl_of_owns h, ?_⟩
  rcases h.2 with ⟨rfl, _⟩ | ⟨g, cap, cur, rfl, _⟩
  · exact .inl rfl
  · exact .inr ⟨_, _, _, rfl⟩

theorem Sn.kept {w w' : World} {v : Value} {bs : List Int} {S : Nat → Prop} (h : Sn w v bs) (hk : Kept S w w') (hn : ∀ k, v.ownBlock = some k → ¬ S k) : Sn w' v bs := ⟨h.1.kept hk hn, h.2⟩
theorem Sn.below {w w' : World} {v : Value} {bs : List Int} (h : Sn w v bs) (hk : Below w.heap.size w w') : Sn w' v bs := ⟨h.1.below hk, h.2⟩
theorem Sn.alloc {w : World} {v : Value} {bs : List Int} (h : Sn w v bs) (o : Obj) : Sn (w.alloc o) v bs := h.below ((Below.refl _ _).alloc (Nat.le_refl _) o)

set_option maxRecDepth 100000 in
theorem append_sn (w : World) (ty : TypeId) (B : Nat) (v : Value) (n : Nat) (xs : List Int) (hown : w.ownsRow B 5 1 v n (B8 xs)) (sv : Value) (ys : List Int) (hsn : Sn w sv ys) (hl : n + ys.length ≤ 100000000000) (hbase : B ≤ w.heap.size) :
    ∃ v' w', (Builtin.append_ #[40, 40] ty #[v, sv]).run Try.prog w = .ok v' w' ∧ w'.ownsRow B 5 1 v' (n + ys.length) (B8 (xs ++ ys)) ∧ w.grownBy w' v.ownBlock ∧ (v'.ownBlock = v.ownBlock ∨ v'.ownBlock = some w.heap.size) := by
  obtain ⟨i0, hi, hz0, hz1, hz2⟩ := info_parts Try.info5
  obtain ⟨⟨ao, cap, rfl, hc, hx⟩, hsh⟩ := hsn
  rcases hsh with hsh | ⟨a, m, c, hsh⟩
  · injection hsh with h1 h2 h3
    have hy : ys = [] := List.eq_nil_of_length_eq_zero h2
    subst hy
    subst h1 h3
    refine ⟨v, w, run_append_owned_none (P := Try.prog) (w := w) B 40 ty 5 i0 1 Try.underlying40 hi v n (B8 xs) hown, by simpa using hown, ⟨rfl, rfl, rfl, Nat.le_refl _, fun _ _ _ => rfl⟩, .inl rfl⟩
  · injection hsh with h1 h2 h3
    subst h1 h2 h3
    obtain ⟨v', w', hr, q1, q2, _, q4⟩ := run_append_own_at (P := Try.prog) w B 40 ty 5 i0 (.int .u8 0) 1 1 Try.underlying40 hi hz0 hz1 hz2 rfl (by omega) v n (B8 xs) hown a ys.length cap (B8 ys) (by simp) (by
      intro j u hu
      rw [List.getElem?_map, Option.map_eq_some_iff] at hu
      obtain ⟨y, hy, rfl⟩ := hu
      obtain ⟨b, off, e, hj⟩ := hx (by intro e; subst e; simp at hy)
      injection e with e
      subst e
      rw [add_lit]
      exact hj j y hy) (by intro u hu; obtain ⟨_, _, rfl⟩ := List.mem_map.1 hu; rfl) (by unfold maxLen; omega) (by omega) hbase
    exact ⟨v', w', hr, by simpa using q1, q2, q4⟩

theorem wpList_append_sn (w : World) {ops : Array Oper} {rest : List Oper} {o : Oper} {a : Act} {Q : Exit → Act → World → Prop} (hgd : o.guard = none) (s x : Operand)
    (ho : o.op = .call { callee := .builtin .append, args := #[s, x], argTypes := #[40, 40] }) (B : Nat) (v : Value) (n : Nat) (xs : List Int) (hs : a.eval s = v) (hown : w.ownsRow B 5 1 v n (B8 xs))
    (sv : Value) (ys : List Int) (hx : a.eval x = sv) (hsn : Sn w sv ys) (hl : n + ys.length ≤ 100000000000) (hbase : B ≤ w.heap.size)
    (h : ∀ ao c w', w'.ownsRow B 5 1 (.slice ao (n + ys.length) c) (n + ys.length) (B8 (xs ++ ys)) → w.grownBy w' v.ownBlock → wpList Try.prog ops Q rest (a.put o.dst (.slice ao (n + ys.length) c)) w') : wpList Try.prog ops Q (o :: rest) a w := by
  refine wpList_plain hgd fun K hK => ?_
  obtain ⟨v', w', hr, h2, h3, _⟩ := append_sn w o.type B v n xs hown sv ys hsn hl hbase
  obtain ⟨ao, c, rfl⟩ : ∃ ao c, v' = .slice ao (n + ys.length) c := by
    rcases h2.2 with ⟨e1, e2⟩ | ⟨g, cap, cur, e1, _⟩
    · exact ⟨none, 0, by rw [e1, e2]⟩
    · exact ⟨_, _, e1⟩
  unfold Oper.wp execOp
  simp only [ho, resolve, invoke, builtin, Sem.run_bind, Sem.run_pure, Result.andThen_ok, List.map_toArray, List.map_cons, List.map_nil, hs, hx, hr]
  exact hK _ _ (h ao c w' h2 h3)

set_option maxRecDepth 100000 in
set_option maxHeartbeats 1600000 in
theorem sevens_any (u : Int) (w : World) (hu0 : 0 ≤ u) (hu1 : u < 18446744073709551616) :
    Calls Try.prog 88 #[.int .u64 u] w fun x w' => ∃ v, x = .returned v ∧ Sn w' v (rowF 10 u) ∧ Below w.heap.size w w' := by
  obtain ⟨i0, hi, hz0, hz1, hz2⟩ := info_parts Try.info5
  go_enter Try.func88, Try.ntmps88
  go_wp2
  go_loopw [0, 3] (fun t v wr => ∃ (f : Nat) (u' : Int) (bs : List Int), t = .int .u64 u' ∧ 0 ≤ u' ∧ u' < 18446744073709551616 ∧ wr.ownsRow w.heap.size 5 1 v bs.length (B8 bs) ∧ Hid (bs ++ rowF f u' = rowF 10 u) ∧ bs.length + f = 10 ∧ Hid (u' < 128 ^ (f + 1)) ∧ Below w.heap.size w wr)
    (fun t _ _ => (intOf t).toNat)
  case atStart => exact ⟨10, u, [], rfl, hu0, hu1, World.ownsRow_nil _ _ _ _, hid rfl, rfl, hid (show u < 128 ^ (10 + 1) by omega), Below.refl _ _⟩
  case round =>
    obtain ⟨f, u', bs, rfl, h0, h1, hown, hb, hlen, hpow, hbel⟩ := hrel
    have hsz := hbel.size
    have hlo := hown.lt
    by_cases hc : 128 ≤ u'
    · have a2 : IntKind.u8.wrap (u' % 128) = u' % 128 := by rw [IntKind.wrap_u8]; omega
      have a3 : IntKind.u8.wrap (u' % 128 + 128) = u' % 128 + 128 := by rw [IntKind.wrap_u8]; omega
      go_wp2_with (at_builtin; refine wpList_append_lies _ rfl _ _ _ rfl w.heap.size 5 i0 (.int .u8 0) 1 1 Try.underlying40 hi hz0 hz1 hz2 rfl (by omega) _ bs.length (B8 bs) rfl (hown.alloc _) ⟨wr.heap.size, 0, none⟩ 1 1 [.int .u8 (u' % 128 + 128)] rfl rfl (World.news_of_block (cs := #[.int .u8 (u' % 128 + 128)]) (t := 5) (fr := (0, 0)) (heap_alloc_new wr _)) (by simp [Value.oneCell']) (by omega) (by unfold maxLen; omega) (by omega) (by simp; omega) (wr.heap.size + 1) (by simp) ?_)
      intro g2 cap w1 hown1 hgrow hat hlt
      have hb1 : Below w.heap.size w w1 := (hbel.alloc hsz _).grown hgrow (by simp; omega) (fun k hk => (hlo k hk).1)
      have HO := hid hown1
      clear hown1 hgrow hat hown hlo
      go_wp2
      go_roundw
      case rel =>
        cases f with
        | zero => exact absurd (show 127 < u' by omega) (pow_zero_no u' hpow)
        | succ f =>
          refine ⟨f, u' / 128, bs ++ [u' % 128 + 128], by first | rfl | go_num, by omega, by omega, ?_, hid ?_, by simp; omega, hid (pow_step f u' hpow), hb1⟩
          · have := HO.out
            simpa [B8] using this
          · rw [← hb.out, rowF_more f u' (by omega), List.append_assoc]
      case measure => simp [intOf]; omega
    · have a2 : IntKind.u8.wrap u' = u' := by rw [IntKind.wrap_u8]; omega
      go_wp2_with (at_builtin; refine wpList_append_lies _ rfl _ _ _ rfl w.heap.size 5 i0 (.int .u8 0) 1 1 Try.underlying40 hi hz0 hz1 hz2 rfl (by omega) _ bs.length (B8 bs) rfl (hown.alloc _) ⟨wr.heap.size, 0, none⟩ 1 1 [.int .u8 (u')] rfl rfl (World.news_of_block (cs := #[.int .u8 (u')]) (t := 5) (fr := (0, 0)) (heap_alloc_new wr _)) (by simp [Value.oneCell']) (by omega) (by unfold maxLen; omega) (by omega) (by simp; omega) (wr.heap.size + 1) (by simp) ?_)
      intro g2 cap w1 hown1 hgrow hat hlt
      have hb1 : Below w.heap.size w w1 := (hbel.alloc hsz _).grown hgrow (by simp; omega) (fun k hk => (hlo k hk).1)
      have HO := hid hown1
      clear hown1 hgrow hat hown hlo
      go_wp2
      go_ret
      refine ⟨_, rfl, ?_, hb1⟩
      have := HO.out
      rw [← hb.out, rowF_last f u' (by omega)]
      exact sn_of_owns (B := w.heap.size) (n := bs.length + 1) (by simpa [B8] using this)

end Go.Proofs.Ytiammlngbejhkaa

namespace Go.Proofs.Ytiammlngbejhkaa
open Go.RowKit Go.Lib

theorem decV_shape (d : (Int × Int × List Int) × Int) : ∃ x y z u, decV d = .tuple #[vl x y z, .int .i64 u] := by
  unfold decV
  split
  · exact ⟨_, _, _, _, rfl⟩
  · exact ⟨_, _, _, _, rfl⟩

theorem own_some {w : World} {B : Nat} {v : Value} {n : Nat} {xs : List Value} (h : w.ownsRow B 5 1 v n xs) (hn : 0 < n) : ∃ g c, v = .slice (some ⟨g, 0, none⟩) n c ∧ n ≤ c ∧ B ≤ g := by
  rcases h.2 with ⟨_, e2⟩ | ⟨g, cap, cur, e1, hb, _, hc, _⟩
  · omega
  · exact ⟨g, cap, e1, hc, hb⟩

theorem dec_two {w w1 w2 : World} {v v2 : Value} {bs : List Int} {o : Obj} (h1 : w1.ownsRow w.heap.size 5 1 v bs.length (B8 bs) ∧ Below w.heap.size w w1) (ho : w2.ownsRow w.heap.size 5 1 v2 (bs.length + [171].length) (B8 (bs ++ [171]))) (hg : (w1.alloc o).grownBy w2 v.ownBlock) :
    w2.ownsRow w.heap.size 5 1 v2 (bs.length + 1) (B8 (bs ++ [171])) ∧ Below w.heap.size w w2 :=
  ⟨ho, below_grown (h1.2.alloc h1.2.size o) (Nat.le_refl _) (h1.1.alloc _) hg⟩

theorem dec_one {w w1 : World} {ao : Option Addr} {c : Nat} {bs : List Int} {v : Value} (ho : w1.ownsRow w.heap.size 5 1 (.slice ao (0 + bs.length) c) (0 + bs.length) (B8 ([] ++ bs))) (hg : (w.alloc (.cells #[] 5)).grownBy w1 v.ownBlock) (hv : ∀ k, v.ownBlock = some k → w.heap.size ≤ k) :
    w1.ownsRow w.heap.size 5 1 (.slice ao bs.length c) bs.length (B8 bs) ∧ Below w.heap.size w w1 := by
  refine ⟨by simpa using ho, (below1 w _).trans ((Below.refl _ _).grown hg (by simp) hv)⟩

theorem dec_four {w w3 w4 : World} {o : Obj} (h : Below w.heap.size w w3) (hb : Below (w3.alloc o).heap.size (w3.alloc o) w4) : w4.heap[w3.heap.size]? = some o ∧ Below w.heap.size w w4 ∧ Below w3.heap.size w3 w4 :=
  ⟨blk_of hb (heap_alloc_new w3 o) (by simp), (h.alloc h.size o).trans (hb.mono (h.alloc h.size o).size), below_on (below1 w3 o) hb⟩

set_option maxRecDepth 100000 in
set_option maxHeartbeats 3200000 in
theorem decodes_any (v : Value) (bs : List Int) (w : World) (h : Sn w v bs) (ho : Oct bs) : Calls Try.prog 5 #[v] w fun x w' => x = .returned (.bool true) ∧ Below w.heap.size w w' := by
  have HS := hid h
  have HO := hid ho
  obtain ⟨⟨ao, cc, rfl, hc, hx⟩, -⟩ := h
  clear ho hc hx
  obtain ⟨i0, hi, hz0, hz1, hz2⟩ := info_parts Try.info5
  by_cases hl : (bs.length : Int) ≤ 100000
  · go_enter Try.func5, Try.ntmps5
    go_upto_region 5 with (first
      | (at_builtin
         (with_reducible show wpList _ _ _ _ _ (w.alloc _))
         go_loud (
         refine wpList_append_sn _ rfl _ _ rfl w.heap.size _ 0 [] rfl ((show Own (w.alloc (.cells #[] 5)) w.heap.size [] from heap_alloc_new w _).owns (Nat.le_refl _) (by decide)) _ bs rfl (HS.out.below (below1 w _)) (by omega) (by simp) ?_
         intro ao1 c1 w1 hown hgrow
         have H1 := hid (dec_one hown hgrow (by intro k hk; simp [Value.ownBlock, Act.eval] at hk; omega))
         clear hown hgrow))
      | (at_builtin; go_loud (
         refine wpList_append_sn _ rfl _ _ rfl w.heap.size _ bs.length bs rfl (H1.out.1.alloc _) _ [171] rfl (sn_of_owns (B := 0) ((show Own (w1.alloc (.cells #[.int .u8 171] 5)) w1.heap.size [171] from heap_alloc_new w1 _).owns (Nat.zero_le _) (by decide))) (by simp; omega) (by simp; exact Nat.le_trans H1.out.2.size (Nat.le_succ _)) ?_
         intro ao2 c2 w2 hown hgrow
         have H2 := hid (show w2.ownsRow w.heap.size 5 1 (.slice ao2 (bs.length + 1) c2) (bs.length + 1) (B8 (bs ++ [171])) ∧ Below w.heap.size w w2 from dec_two H1.out hown hgrow)
         clear hown hgrow)))
    obtain ⟨rv, hrv, hsl, -⟩ := sl_to (sl_of_owns H2.out.1) bs.length (by simp)
    rw [List.take_left] at hsl
    have HRV := hid hsl
    obtain ⟨gv, hgv⟩ : ∃ gv, gv = Value.slice ao2 (bs.length + 1) c2 := ⟨_, rfl⟩
    rw [← hgv] at hrv H2 ⊢
    have HGV := hid hgv
    have hD := decode_any rv bs
    have hR := rdecode_any (.slice ao bs.length cc) bs
    obtain ⟨x, y, z, u, hd⟩ := decV_shape (decZ bs)
    rw [hd] at hD hR
    have HD := hid hD
    have HRR := hid hR
    clear hgv hsl hD hR hd
    go_upto_region 7 with (first
      | (go_at_call 31
         refine (HD.out _ HRV.out HO.out (by omega)).mono ?_
         rintro e w3 ⟨rfl, hb3⟩
         have H3 := hid (And.intro (below_on H2.out.2 hb3) hb3)
         clear hb3)
      | (go_at_call 32
         refine (HRR.out _ ((HS.out.1.below H3.out.1).below (below1 w3 _)) HO.out (by omega)).mono ?_
         rintro e w4 ⟨rfl, hb4⟩
         have H4 := hid (dec_four H3.out.1 hb4)
         clear hb4))
    obtain ⟨g, c, hg2, hgc, hgB⟩ := own_some H2.out.1 (by omega)
    have HG2 := hid hg2
    have hcell : w2.cell? ⟨g, bs.length, none⟩ = some (.int .u8 171) := by
      have h1 := H2.out.1
      rw [hg2] at h1
      have := h1.cells (g := g) rfl bs.length (.int .u8 171) (by simp [B8])
      rw [add_lit] at this
      simpa using this
    have hb24 : Below w2.heap.size w2 w4 := below_on H3.out.2 H4.out.2.2
    have HC4 := hid (And.intro ((hb24.cell (World.block_lt_of_cell? _ _ hcell)).trans hcell) (And.intro (HRV.out.below hb24) (HS.out.1.below H4.out.2.1)))
    have HB4 := hid H4.out.2.1
    obtain ⟨a0, a1, a2, -⟩ := vfacts H4.out.1
    have l3 := lt_of H4.out.1
    clear hg2 hcell hb24 H1 H2 H3 H4 HD HRR HRV hi hz0 hz1 hz2
    go_wp2_with (first
      | (go_at_call 30
         refine (bytes_any rv _ bs bs _ (HC4.out.2.1.below (below1 w4 _)) (HC4.out.2.2.below (below1 w4 _)) (by omega)).mono ?_
         rintro e w5 ⟨⟨nq, e5⟩, rfl⟩
         rw [show decide (bs = bs) = true by simp]
         have cg : w5.cell? ⟨g, bs.length, none⟩ = some (.int .u8 171) := by rw [e5]; exact ((below1 w4 _).cell (World.block_lt_of_cell? _ _ HC4.out.1)).trans HC4.out.1
         have HB5 := hid (show Below w.heap.size w w5 by rw [e5]; exact (HB4.out.alloc HB4.out.size _).trans ⟨rfl, rfl, rfl, Nat.le_refl _, fun _ _ => rfl⟩)
         rw [HG2.out]
         have i1 : (0 : Int) ≤ (bs.length : Int) := by omega
         have i2 : (bs.length : Int) < ((bs.length + 1 : Nat) : Int) := by omega
         clear e5)
      | (go_at_call 9
         refine (known_any _).mono ?_
         rintro e w6 ⟨rfl, hb6⟩
         have H6 := hid (below_on HB5.out hb6)
         clear hb6))
    go_ret
    exact ⟨rfl, H6.out⟩
  · go_enter Try.func5, Try.ntmps5
    go_wp2_with (go_at_call 9; refine (known_any _).mono ?_; rintro e w1 ⟨rfl, hb⟩)
    go_ret
    exact ⟨rfl, hb⟩

end Go.Proofs.Ytiammlngbejhkaa
