import Derived.Test.YthcoigbkdbkojaaGreatK13
import Derived.StillTailTactics
namespace Go.Proofs.YthcoigbkdbkojaaGreat
open Go.RowKit Go.MapKept
open V (hp_new hp_lt hp_below hp_alloc)

theorem Va.below {w w' : World} {v : Value} {l : List Vd} (h : Va w v l) (hb : Below w.heap.size w w') : Va w' v l := by
  obtain ⟨ao, cap, h1, h2, h3⟩ := h
  refine ⟨ao, cap, h1, h2, fun hn => ?_⟩
  obtain ⟨b, off, h4, h5⟩ := h3 hn
  refine ⟨b, off, h4, fun j x hx => ?_⟩
  obtain ⟨a1, a2, a3⟩ := h5 j x hx
  exact ⟨(hb.cell (World.block_lt_of_cell? _ _ a1)).trans a1, (hb.cell (World.block_lt_of_cell? _ _ a2)).trans a2, (hb.cell (World.block_lt_of_cell? _ _ a3)).trans a3⟩

/-- A machine at its beginning. -/
def mc0 (vw av : Value) : Mc := ⟨vw, av, fun _ => ⟨0, 0, emp⟩, [], [], []⟩

/-- Its cells. -/
abbrev mcs (vw av : Value) (M : Nat) : Array Value := #[vw, av, .int .i64 0,
  .int .i64 0, .int .i64 0, .string emp, .int .i64 0, .int .i64 0, .string emp, .int .i64 0, .int .i64 0, .string emp, .int .i64 0, .int .i64 0, .string emp,
  .int .i64 0, .int .i64 0, .string emp, .int .i64 0, .int .i64 0, .string emp, .int .i64 0, .int .i64 0, .string emp, .int .i64 0, .int .i64 0, .string emp,
  .int .i64 0, .int .i64 0, .string emp, .int .i64 0, .int .i64 0, .string emp, .int .i64 0, .int .i64 0, .string emp, .int .i64 0, .int .i64 0, .string emp,
  .int .i64 0, .int .i64 0, .string emp, .int .i64 0, .int .i64 0, .string emp, .int .i64 0, .int .i64 0, .string emp, .int .i64 0, .int .i64 0, .string emp,
  .slice none 0 0, .map (some M), .slice none 0 0]

theorem mb0 {w : World} {mb M : Nat} {vw av : Value} (h : w.heap[mb]? = some (.cells (mcs vw av M) 82 (0, 0))) : Mb w mb ((mc0 vw av).ms 0 (.slice none 0 0) (.slice none 0 0) M) := by
  refine ⟨_, h, rfl, rfl, rfl, rfl, rfl, rfl, rfl, fun r hr => ?_⟩
  rcases (by omega : r = 0 ∨ r = 1 ∨ r = 2 ∨ r = 3 ∨ r = 4 ∨ r = 5 ∨ r = 6 ∨ r = 7 ∨ r = 8 ∨ r = 9 ∨ r = 10 ∨ r = 11 ∨ r = 12 ∨ r = 13 ∨ r = 14 ∨ r = 15) with rfl | rfl | rfl | rfl | rfl | rfl | rfl | rfl | rfl | rfl | rfl | rfl | rfl | rfl | rfl | rfl <;> exact ⟨rfl, rfl, rfl⟩

theorem my0 {w : World} {B mb M : Nat} {vw av : Value} (h : w.heap[mb]? = some (.cells (mcs vw av M) 82 (0, 0))) (hm : w.heap[M]? = some (.map #[] 0)) (h1 : B ≤ mb) (h2 : B ≤ M) : MY w B mb M 0 (mc0 vw av) :=
  ⟨.slice none 0 0, .slice none 0 0, mb0 h, h1, owns_nil _ _ _ _, owns_nil _ _ _ _, rfl, ⟨#[], 0, ⟨hm, (fun _ h => nomatch h), List.nodup_nil, rfl, List.nodup_nil⟩⟩, h2⟩

set_option maxRecDepth 100000 in
theorem Tryz.zero82 (w : World) : (zeroValue 82).run Tryz.prog w = .ok (.agg (#[.nilIface, .slice none 0 0, .int .i64 0,
  .int .i64 0, .int .i64 0, .string emp, .int .i64 0, .int .i64 0, .string emp, .int .i64 0, .int .i64 0, .string emp, .int .i64 0, .int .i64 0, .string emp,
  .int .i64 0, .int .i64 0, .string emp, .int .i64 0, .int .i64 0, .string emp, .int .i64 0, .int .i64 0, .string emp, .int .i64 0, .int .i64 0, .string emp,
  .int .i64 0, .int .i64 0, .string emp, .int .i64 0, .int .i64 0, .string emp, .int .i64 0, .int .i64 0, .string emp, .int .i64 0, .int .i64 0, .string emp,
  .int .i64 0, .int .i64 0, .string emp, .int .i64 0, .int .i64 0, .string emp, .int .i64 0, .int .i64 0, .string emp, .int .i64 0, .int .i64 0, .string emp,
  .slice none 0 0, .map none, .slice none 0 0])) w := by kernel_rfl

set_option maxRecDepth 100000 in
set_option maxHeartbeats 8000000 in
theorem run12_of (vt : TypeId) (pv : Nat) (av S : Value) (nm : ByteArray) (ar : Int) (xs : List Ins) (l : List Vd) (w : World) (R1 : Int) (hc : CodeAt w S xs) (ha : Va w av l) (hl : xs.length ≤ 64) (hla : l.length ≤ 1000)
    (hp : procChk nm ar xs = (R1, 0)) (hv : ∀ x ∈ l, chk x.k x.i x.t = 0) (har : ar = l.length) (Q : Value → World → Prop)
    (hr : ∀ W1 W mb M, Below w.heap.size w W1 → w.heap.size + 2 ≤ W1.heap.size → MY W W1.heap.size mb M 0 (mc0 (.iface vt (.pointer (some ⟨pv, 0, none⟩))) av) → Below W1.heap.size W1 W → Calls Tryz.prog 31 #[.pointer (some ⟨mb, 0, none⟩), S] W fun e w' => ∃ st at_ t1 n1 k1 t2 n2 k2 t3 n3 k3, e = .returned (.agg #[.int .i64 st, .int .i64 at_, .slice t1 n1 k1, .slice t2 n2 k2, .slice t3 n3 k3]) ∧ Q (.agg #[.int .i64 st, .int .i64 at_, .slice t1 n1 k1, .slice t2 n2 k2, .slice t3 n3 k3]) w' ∧ Below W1.heap.size W w')
    (hQ : ∀ v W W', Q v W → Kept (fun k => k = w.heap.size + 1) W W' → Q v W') :
    Calls Tryz.prog 12 #[.iface vt (.pointer (some ⟨pv, 0, none⟩)), .agg #[.string nm, .int .i64 ar, S], av] w fun e w' => ∃ v, e = .returned v ∧ Q v w' ∧ Below w.heap.size w w' := by
  obtain ⟨aa, ca, rfl, hca, hca2⟩ := ha
  obtain ⟨ac, cc, rfl, hcc, hcc2⟩ := hc
  have hmm := @run_makeMap Tryz.prog
  have HPC := hid (show ∀ W, Below w.heap.size w W → Calls Tryz.prog 29 #[.agg #[.string nm, .int .i64 ar, .slice ac xs.length cc]] W fun e w' => e = .returned (.tuple #[.int .i64 R1, .int .i64 0]) ∧ Below W.heap.size W w' from fun W hb => by
    have h1 := pcheck_any nm ar (.slice ac xs.length cc) xs W (CodeAt.below ⟨ac, cc, rfl, hcc, hcc2⟩ hb) (by omega)
    rw [hp] at h1
    exact h1)
  have hVa : Va w (.slice aa l.length ca) l := ⟨aa, ca, rfl, hca, hca2⟩
  have hb2 : Below w.heap.size w ((w.alloc (.cells #[.string nm, .int .i64 ar, .slice ac xs.length cc] 25)).alloc (.cells #[.int .i64 0, .int .i64 0, .slice none 0 0, .slice none 0 0, .slice none 0 0] 43)) := (below1 w _).alloc (by simp) _
  have HB2 := hid (And.intro hb2 (And.intro (two1 w (.cells #[.string nm, .int .i64 ar, .slice ac xs.length cc] 25) (.cells #[.int .i64 0, .int .i64 0, .slice none 0 0, .slice none 0 0, .slice none 0 0] 43)) (two2 w (.cells #[.string nm, .int .i64 ar, .slice ac xs.length cc] 25) (.cells #[.int .i64 0, .int .i64 0, .slice none 0 0, .slice none 0 0, .slice none 0 0] 43))))
  have H := hid (And.intro hVa (And.intro hv (And.intro hr hQ)))
  clear hVa hv hr hQ hp hca2 hcc2 hb2
  subst har
  go_enter Tryz.func12, Tryz.ntmps12
  go_wp2_with (first
    | (go_at_call 29
       refine (HPC.out _ HB2.out.1).mono ?_
       rintro e w2 ⟨rfl, hb2⟩
       have H2 := hid (And.intro (blk_of hb2 HB2.out.2.1 (hp_lt HB2.out.2.1)) (And.intro (blk_of hb2 HB2.out.2.2 (hp_lt HB2.out.2.2)) (And.intro (below_on HB2.out.1 hb2) (show w.heap.size + 2 ≤ w2.heap.size by have := hb2.size; simp at this; omega))))
       clear hb2))
  go_loopw [22] (fun ix wr => ∃ k : Nat, k ≤ l.length ∧ ix = .int .i64 k ∧ Hid (Below w2.heap.size w2 wr)) (fun ix _ => l.length - (intOf ix).toNat)
  case atStart => exact ⟨0, Nat.zero_le _, by go_num, hid (Below.refl _ _)⟩
  case round =>
    obtain ⟨k, hk, rfl, HR⟩ := hrel
    by_cases hlt : k < l.length
    · have i1 : (k : Int) < (l.length : Int) := by omega
      obtain ⟨ao2, cap2, e, -, hcd⟩ := H.out.1
      injection e with e1 _ e3
      obtain ⟨ba, oa, e4, hce⟩ := hcd (fun e => by rw [e] at hlt; simp at hlt)
      subst e1 e3
      subst e4
      have hkx : l[k]? = some l[k] := List.getElem?_eq_getElem hlt
      have hkc := H.out.2.1 l[k] (List.getElem_mem hlt)
      obtain ⟨x, hxe⟩ : ∃ x, x = l[k] := ⟨_, rfl⟩
      rw [← hxe] at hkx hkc
      obtain ⟨xk, xi, xt⟩ := x
      obtain ⟨x0, x1, x2⟩ := hce k _ hkx
      have hbw := below_on H2.out.2.2.1 HR.out
      have y0 := (hbw.cell (World.block_lt_of_cell? _ _ x0)).trans x0
      have y1 := (hbw.cell (World.block_lt_of_cell? _ _ x1)).trans x1
      have y2 := (hbw.cell (World.block_lt_of_cell? _ _ x2)).trans x2
      dsimp only at y0 y1 y2 hkc
      have HCK := hid (fun W => check_any xk xi xt W)
      rw [hkc] at HCK
      clear hbw x0 x1 x2 hcd hce hkx hxe hkc
      go_wp2_with (first
        | (go_at_call 30
           refine (HCK.out _).mono ?_
           rintro e w3 ⟨rfl, hb3⟩
           have H3 := hid (below_on HR.out (below_on (below1 wr _) hb3))
           clear hb3))
      go_roundw
      case rel => exact ⟨k + 1, by omega, by go_num, H3⟩
      case measure => simp [intOf]; omega
    · obtain rfl : l.length = k := by omega
      have i1 : ¬ (l.length : Int) < (l.length : Int) := by omega
      have h25 := blk_of HR.out H2.out.1 (hp_lt H2.out.1)
      have h43 := blk_of HR.out H2.out.2.1 (hp_lt H2.out.2.1)
      have z1 : wr.cell? ⟨w.heap.size, 1, none⟩ = some (.int .i64 l.length) := by rw [cell_of_row _ _ _ _ _ _ h25]; rfl
      have z2 : wr.cell? ⟨w.heap.size, 2, none⟩ = some (.slice ac xs.length cc) := by rw [cell_of_row _ _ _ _ _ _ h25]; rfl
      have hzz := hp_lt h25
      have H4 := hid (And.intro h43 (And.intro (below_on H2.out.2.2.1 HR.out) (show w.heap.size + 2 ≤ wr.heap.size by have := HR.out.size; have := H2.out.2.2.2; omega)))
      clear h25 h43
      have HM := hid (H.out.2.2.1 wr ((wr.alloc (.map #[] 0)).alloc (.cells (mcs (.iface vt (.pointer (some ⟨pv, 0, none⟩))) (.slice aa l.length ca) wr.heap.size) 82)) (wr.heap.size + 1) wr.heap.size H4.out.2.1 H4.out.2.2 (my0 (two2 wr _ _) (two1 wr _ _) (Nat.le_succ _) (Nat.le_refl _)) ((below1 wr _).alloc (by simp) _))
      go_wp2_with (first
        | (go_at_call 31
           refine HM.out.mono ?_
           rintro e w3 ⟨st, at_, t1, n1, k1, t2, n2, k2, t3, n3, k3, rfl, hq, hb3⟩
           have hb3' : Below wr.heap.size wr w3 := ((below1 wr (.map #[] 0)).alloc (by simp) (.cells (mcs (.iface vt (.pointer (some ⟨pv, 0, none⟩))) (.slice aa l.length ca) wr.heap.size) 82)).trans hb3
           have h43 := blk_of hb3' H4.out.1 (hp_lt H4.out.1)
           obtain ⟨f0, f1, f2, f3, f4, f5⟩ := cells5f h43
           have hz3 := hp_lt h43
           have H5 := hid (And.intro hq (And.intro (below_on H4.out.2.1 hb3') h43))
           clear hq hb3 hb3' h43))
      refine bodyPost_ret (ret_eff2 Tryz.results12 rfl (set5 H5.out.2.2 _ _ _ _ _)) rfl ?_
      have hk9 : Kept (fun k => k = w.heap.size + 1) w3 (((((w3.setCell ⟨w.heap.size + 1, 0, none⟩ (.int .i64 st)).setCell ⟨w.heap.size + 1, 1, none⟩ (.int .i64 at_)).setCell ⟨w.heap.size + 1, 2, none⟩ (.slice t1 n1 k1)).setCell ⟨w.heap.size + 1, 3, none⟩ (.slice t2 n2 k2)).setCell ⟨w.heap.size + 1, 4, none⟩ (.slice t3 n3 k3)) := (((((Kept.refl (fun k => k = w.heap.size + 1) w3).setCell (p := ⟨w.heap.size + 1, 0, none⟩) (fun _ => rfl) _).setCell (p := ⟨w.heap.size + 1, 1, none⟩) (fun _ => rfl) _).setCell (p := ⟨w.heap.size + 1, 2, none⟩) (fun _ => rfl) _).setCell (p := ⟨w.heap.size + 1, 3, none⟩) (fun _ => rfl) _).setCell (p := ⟨w.heap.size + 1, 4, none⟩) (fun _ => rfl) _
      exact ⟨_, rfl, H.out.2.2.2 _ _ _ H5.out.1 hk9, H5.out.2.1.trans (hk9.below H5.out.2.1.size (fun k hk e => by omega))⟩

end Go.Proofs.YthcoigbkdbkojaaGreat

namespace Go.Proofs.YthcoigbkdbkojaaGreat
open Go.RowKit Go.MapKept
open V (hp_new hp_lt hp_below hp_alloc)

set_option maxRecDepth 100000 in
set_option maxHeartbeats 4000000 in
theorem catch_ref (r mb : Nat) (pc E : Int) (al : Option Addr) (n cl : Nat) (w : World) (hr : RB w r mb) (c2 : w.cell? ⟨mb, 2, none⟩ = some (.int .i64 pc)) (c5 : w.cell? ⟨mb, 53, none⟩ = some (.slice al n cl)) :
    CallsD Tryz.prog 54 #[.pointer (some ⟨r, 0, none⟩), .pointer (some ⟨r + 1, 0, none⟩)] (.panicking [{ v := .iface 127 (.agg #[.int .i64 E]), recovered := false }]) w fun e u' w' =>
      e = .returned (.tuple #[]) ∧ u' = .panicking [{ v := .iface 127 (.agg #[.int .i64 E]), recovered := true }] ∧ w'.heap[r + 1]? = some (.cells #[.int .i64 E, .int .i64 pc, .slice none 0 0, .slice none 0 0, .slice al n cl] 43 (0, 0)) ∧ Kept (fun k => k = r + 1) w w' := by
  have h1 := eqRef E
  have h4 := taRef
  have b0 : w.cell? ⟨r, 0, none⟩ = some (.pointer (some ⟨mb, 0, none⟩)) := by rw [cell_of_row _ _ _ _ _ _ hr.b]; rfl
  obtain ⟨f0, f1, f2, f3, f4, f5⟩ := cells5f hr.e
  have hl1 := hp_lt hr.b
  have hl2 := hp_lt hr.e
  have hl3 := World.block_lt_of_cell? _ _ c2
  have HE := hid hr.e
  clear hr
  refine callsD_of_wpS Tryz.func54 rfl fun c₀ cs hu => ?_
  apply wpS_seq
  apply wpS_region
  simp [wpOpsS, go_sem, recoverD, hu, Tryz.ntmps54, Exit.thenS]
  refine wpS_of_wp ?_
  have hT : (#[Value.pointer (some ⟨r, 0, none⟩), Value.pointer (some ⟨r + 1, 0, none⟩)] ++ (Array.replicate 21 undef).setIfInBounds 3 (Value.iface 127 (.agg #[.int .i64 E]))) = #[Value.pointer (some ⟨r, 0, none⟩), Value.pointer (some ⟨r + 1, 0, none⟩), undef, undef, undef, Value.iface 127 (.agg #[.int .i64 E]), undef, undef, undef, undef, undef, undef, undef, undef, undef, undef, undef, undef, undef, undef, undef, undef, undef] := by kernel_rfl
  rw [hT]
  clear hT
  refine Code.wp_mono NoPanic.imp ?_
  go_wp2
  go_region
  have hk9 : Kept (fun k => k = r + 1) w (((((w.setCell ⟨r + 1, 0, none⟩ (.int .i64 E)).setCell ⟨r + 1, 1, none⟩ (.int .i64 pc)).setCell ⟨r + 1, 2, none⟩ (.slice none 0 0)).setCell ⟨r + 1, 3, none⟩ (.slice none 0 0)).setCell ⟨r + 1, 4, none⟩ (.slice al n cl)) := (((((Kept.refl (fun k => k = r + 1) w).setCell (p := ⟨r + 1, 0, none⟩) (fun _ => rfl) _).setCell (p := ⟨r + 1, 1, none⟩) (fun _ => rfl) _).setCell (p := ⟨r + 1, 2, none⟩) (fun _ => rfl) _).setCell (p := ⟨r + 1, 3, none⟩) (fun _ => rfl) _).setCell (p := ⟨r + 1, 4, none⟩) (fun _ => rfl) _
  refine NoPanic.normal (NoPanic.normal ?_)
  exact ⟨rfl, _, rfl, .tuple #[], by simp [results, Tryz.results54], rfl, rfl, hp_alloc (set5 HE.out _ _ _ _ _) _, (hk9.alloc _).drew⟩

end Go.Proofs.YthcoigbkdbkojaaGreat

namespace Go.Proofs.YthcoigbkdbkojaaGreat
open Go.RowKit Go.MapKept
open V (hp_new hp_lt hp_below hp_alloc)

/-- An instruction gives up. -/
def Gives1 (ws : World) (B mb M : Nat) (pc : Int) (x : Ins) (c : Mc) (E : Int) : Prop := ∃ o : Nat, x.op = o ∧ 1 ≤ o ∧ o ≤ 15 ∧ ∀ W tv lv, MX W B mb (c.ms pc tv lv M) c.td c.lk M c.kv → Below B ws W → Calls Tryz.prog (83 + o) #[.pointer (some ⟨mb, 0, none⟩), x.val] W fun e w' => e = gu E ∧ MX w' B mb (c.ms pc tv lv M) c.td c.lk M c.kv ∧ Kept (Sx (c.ms pc tv lv M) mb M) W w'

set_option maxRecDepth 100000 in
set_option maxHeartbeats 6400000 in
theorem run_no (ws w : World) (B mb M : Nat) (xs : List Ins) (st : Nat → Mc) (code : Value) (k0 : Nat) (hk0 : k0 < xs.length) (E : Int) (h : MY w B mb M 0 (st 0)) (hw : Below B ws w) (hl : xs.length ≤ 64)
    (hc : ∀ W, Below B ws W → CodeAt W code xs) (hst : ∀ (k : Nat) x, k < k0 → xs[k]? = some x → Goes1 ws B mb M k x (st k) (st (k + 1))) (hgv : ∀ x, xs[k0]? = some x → Gives1 ws B mb M k0 x (st k0) E) :
    Calls Tryz.prog 31 #[.pointer (some ⟨mb, 0, none⟩), code] w fun e w' => (∃ al n cl, e = .returned (.agg #[.int .i64 E, .int .i64 k0, .slice none 0 0, .slice none 0 0, .slice al n cl])) ∧ Below B w w' := by
  obtain ⟨ao, cap, rfl, hcap, hc0⟩ := hc w hw
  have hmf : ∀ (fn : Fn) (first cap : Array Value) (w : World), (Instr.makeFunc fn first cap).run Tryz.prog w = .ok (.func fn first cap) w := fun _ _ _ _ => rfl
  obtain ⟨tv0, lv0, h0⟩ := h
  have hml := h0.m.lt
  have H := hid (And.intro h0 (And.intro hw (And.intro hc (And.intro hst hgv))))
  have hbB := h0.bB
  clear h0 hw hc hst hgv hc0
  go_enter_defers Tryz.func31, Tryz.ntmps31
  go_wp2_with fail
  refine wp_scope_straight ?_
  go_wp2_with (first
    | (go_at_call 55
       refine (optab_any _).mono ?_
       rintro e w' ⟨rfl, e1⟩
       rw [e1]
       clear e1 w'))
  have hb3 : Below w.heap.size w (((w.alloc (.cells #[.pointer (some ⟨mb, 0, none⟩)] 78)).alloc (.cells #[.int .i64 0, .int .i64 0, .slice none 0 0, .slice none 0 0, .slice none 0 0] 43)).alloc opTab) := ((below1 w _).alloc (by simp) _).alloc (by simp; omega) _
  have hRB : RB (((w.alloc (.cells #[.pointer (some ⟨mb, 0, none⟩)] 78)).alloc (.cells #[.int .i64 0, .int .i64 0, .slice none 0 0, .slice none 0 0, .slice none 0 0] 43)).alloc opTab) w.heap.size mb := by
    refine ⟨hp_alloc (hp_alloc (hp_new w _) _) _, ?_, ?_⟩
    · have h1 := hp_alloc (hp_new (w.alloc (.cells #[.pointer (some ⟨mb, 0, none⟩)] 78)) (.cells #[.int .i64 0, .int .i64 0, .slice none 0 0, .slice none 0 0, .slice none 0 0] 43)) opTab
      simpa using h1
    · have h1 := hp_new ((w.alloc (.cells #[.pointer (some ⟨mb, 0, none⟩)] 78)).alloc (.cells #[.int .i64 0, .int .i64 0, .slice none 0 0, .slice none 0 0, .slice none 0 0] 43)) opTab
      simpa using h1
  have HRB := hid (And.intro hb3 hRB)
  clear hb3 hRB
  refine wp_label ?_
  go_wp2_with fail
  go_loopw [6] (fun _ wr => ∃ k : Nat, k ≤ k0 ∧ Hid (MY wr B mb M k (st k) ∧ RB wr w.heap.size mb ∧ Below B w wr)) (fun _ wr => xs.length - pcOf wr mb)
  case atStart => exact ⟨0, Nat.zero_le _, hid ⟨⟨_, _, H.out.1.below HRB.out.1⟩, HRB.out.2, HRB.out.1.mono hbB⟩⟩
  case round =>
    obtain ⟨k, hk, HR⟩ := hrel
    obtain ⟨tv, lv, hx⟩ := HR.out.1
    have hpc := hx.pc
    obtain ⟨-, -, c2, -⟩ := hx.m.cells
    replace c2 := (show wr.cell? ⟨mb, 2, none⟩ = some (.int .i64 k) from c2)
    have b0 : wr.cell? ⟨w.heap.size, 0, none⟩ = some (.pointer (some ⟨mb, 0, none⟩)) := by rw [cell_of_row _ _ _ _ _ _ HR.out.2.1.b]; rfl
    have hml2 := hx.m.lt
    have hwl := World.block_lt_of_cell? _ _ b0
    have hlt : k < xs.length := by omega
    have i1 : (k : Int) < (xs.length : Int) := by omega
    obtain ⟨ao2, cap2, e, -, hcd⟩ := H.out.2.2.1 wr (H.out.2.1.trans HR.out.2.2)
    injection e with e1 _ e3
    obtain ⟨bc, oc, e4, hce⟩ := hcd (fun e => by rw [e] at hlt; simp at hlt)
    subst e1 e3
    subst e4
    have hkx : xs[k]? = some xs[k] := List.getElem?_eq_getElem hlt
    obtain ⟨x, hxe⟩ : ∃ x, x = xs[k] := ⟨_, rfl⟩
    rw [← hxe] at hkx
    have hia := hce k x hkx
    by_cases hlk : k < k0
    · obtain ⟨o, ho, h1, h2, hgo⟩ := H.out.2.2.2.1 k x hlk hkx
      have hE := op_in o h1 h2
      obtain ⟨F, hF⟩ : ∃ F, F = 83 + o := ⟨_, rfl⟩
      have htf := fun W (hr : RB W w.heap.size mb) => tab_fn hr.t o h1 h2
      rw [← hF] at hE hgo
      simp only [← hF] at htf
      obtain ⟨op, a, b, c, n', vk, vi, vt⟩ := x
      dsimp only at ho
      subst ho
      obtain ⟨x0, x1, x2, x3, x4, x5, x6, x7⟩ := hia
      dsimp only at x0 x1 x2 x3 x4 x5 x6 x7
      have hne : ¬ (o : Int) = 16 := by omega
      have ho16 : (o : Int) < 16 := by omega
      have hbl := World.block_lt_of_cell? _ _ x0
      dsimp only at hbl
      have HX := hid (And.intro hx (And.intro hgo htf))
      clear hx hcd hce hkx hxe hgo htf hF
      go_upto_region 7 with fail
      have HSW := hid (show ∀ wx : World, wx.heap[wr.heap.size]? = some (io o a b c n' vk vi vt) → RB wx w.heap.size mb → wx.cell? ⟨wr.heap.size, 0, none⟩ = some (.int .i64 o) ∧ wx.cell? ⟨wr.heap.size, 1, none⟩ = some (.int .i64 a) ∧ wx.cell? ⟨wr.heap.size, 2, none⟩ = some (.int .i64 b) ∧ wx.cell? ⟨wr.heap.size, 3, none⟩ = some (.int .i64 c) ∧ wx.cell? ⟨wr.heap.size, 4, none⟩ = some (.int .i64 n') ∧ wx.cell? ⟨wr.heap.size, 5, none⟩ = some (.int .i64 vk) ∧ wx.cell? ⟨wr.heap.size, 6, none⟩ = some (.int .i64 vi) ∧ wx.cell? ⟨wr.heap.size, 7, none⟩ = some (.string vt) ∧ wx.cell? ⟨w.heap.size + 1 + 1, o, none⟩ = some (.func (.func F) #[] #[]) ∧ wx.cell? ⟨w.heap.size, 0, none⟩ = some (.pointer (some ⟨mb, 0, none⟩)) from fun wx q1 q2 => by
        obtain ⟨y0, y1, y2, y3, y4, y5, y6, y7⟩ := cells8 q1
        exact ⟨y0, y1, y2, y3, y4, y5, y6, y7, HX.out.2.2 wx q2, by rw [cell_of_row _ _ _ _ _ _ q2.b]; rfl⟩)
      have hb1 : Below wr.heap.size wr (wr.alloc (io o a b c n' vk vi vt)).drew := (below1 wr _).drew
      have HB1 := hid (And.intro (HX.out.1.below hb1) (And.intro (HR.out.2.1.below hb1) (And.intro hb1 (show (wr.alloc (io o a b c n' vk vi vt)).drew.heap[wr.heap.size]? = some (io o a b c n' vk vi vt) from hp_new wr _))))
      have HGO := hid (HX.out.2.1 _ tv lv HB1.out.1 ((H.out.2.1.trans HR.out.2.2).trans (hb1.mono HX.out.1.bB)))
      clear hb1 x0 x1 x2 x3 x4 x5 x6 x7 c2 b0
      go_region_held3 (fun wx => wx.cell? ⟨wr.heap.size, 0, none⟩ = some (.int .i64 o) ∧ wx.cell? ⟨wr.heap.size, 1, none⟩ = some (.int .i64 a) ∧ wx.cell? ⟨wr.heap.size, 2, none⟩ = some (.int .i64 b) ∧ wx.cell? ⟨wr.heap.size, 3, none⟩ = some (.int .i64 c) ∧ wx.cell? ⟨wr.heap.size, 4, none⟩ = some (.int .i64 n') ∧ wx.cell? ⟨wr.heap.size, 5, none⟩ = some (.int .i64 vk) ∧ wx.cell? ⟨wr.heap.size, 6, none⟩ = some (.int .i64 vi) ∧ wx.cell? ⟨wr.heap.size, 7, none⟩ = some (.string vt) ∧ wx.cell? ⟨w.heap.size + 1 + 1, o, none⟩ = some (.func (.func F) #[] #[]) ∧ wx.cell? ⟨w.heap.size, 0, none⟩ = some (.pointer (some ⟨mb, 0, none⟩)))
        (first | exact HSW.out _ HB1.out.2.2.2 HB1.out.2.1 | exact HSW.out _ H2.out.2.2.2 H2.out.2.1)
        (first
        | (go_at_fn F
           refine HGO.out.mono ?_
           rintro e w2 ⟨rfl, hy2, hk2⟩
           have H2 := hid (And.intro hy2 (And.intro (HB1.out.2.1.kept HB1.out.1 hk2) (And.intro hk2 (hpk HB1.out.2.2.2 hk2 (HB1.out.1.notSx HB1.out.2.2.2 (by decide) (by decide) (by decide))))))
           clear hy2 hk2))
      obtain ⟨tv2, lv2, hx2⟩ := H2.out.1
      obtain ⟨-, -, c2, -⟩ := hx2.m.cells
      replace c2 := (show w2.cell? ⟨mb, 2, none⟩ = some (.int .i64 k) from c2)
      have b0 : w2.cell? ⟨w.heap.size, 0, none⟩ = some (.pointer (some ⟨mb, 0, none⟩)) := by rw [cell_of_row _ _ _ _ _ _ H2.out.2.1.b]; rfl
      have hfz := hx2.m.free
      have HX2 := hid hx2
      have hwk : IntKind.i64.wrap ((k : Int) + 1) = (k : Int) + 1 := by rw [IntKind.wrap_i64]; omega
      clear hx2
      go_wp2_with fail
      go_roundw
      case rel =>
        have hn := HX2.out.next ((k : Int) + 1)
        have hrb := H2.out.2.1
        have hbw : Below B w w2 := (HR.out.2.2.trans (HB1.out.2.2.1.mono HX.out.1.bB)).trans (HB1.out.1.keptB H2.out.2.2.1)
        refine ⟨k + 1, by omega, hid ⟨⟨tv2, lv2, by have h3 := hn; push_cast; exact h3⟩, ⟨?_, ?_, ?_⟩, hbw.setCell (p := ⟨mb, 2, none⟩) HX.out.1.ge _⟩⟩
        · exact V.hp_set hrb.b (p := ⟨mb, 2, none⟩) (fun e => by have h4 := HX2.out.m.ex; obtain ⟨cs, h5, -⟩ := h4; dsimp only at e; rw [← e, hrb.b] at h5; cases h5) _
        · exact V.hp_set hrb.e (p := ⟨mb, 2, none⟩) (fun e => by have h4 := HX2.out.m.ex; obtain ⟨cs, h5, -⟩ := h4; dsimp only at e; rw [← e, hrb.e] at h5; cases h5) _
        · exact V.hp_set hrb.t (p := ⟨mb, 2, none⟩) (fun e => by have h4 := HX2.out.m.ex; obtain ⟨cs, h5, -⟩ := h4; dsimp only at e; rw [← e, hrb.t] at h5; cases h5) _
      case measure =>
        have hn := (HX2.out.next ((k : Int) + 1)).pc
        have hp0 : pcOf wr mb = k := by rw [hpc]; rfl
        rw [hn, hp0]
        show xs.length - (((k : Int) + 1)).toNat < xs.length - k
        omega
    · obtain rfl : k = k0 := by omega
      obtain ⟨o, ho, h1, h2, hgo⟩ := H.out.2.2.2.2 x hkx
      have hE := op_in o h1 h2
      obtain ⟨F, hF⟩ : ∃ F, F = 83 + o := ⟨_, rfl⟩
      have htf := fun W (hr : RB W w.heap.size mb) => tab_fn hr.t o h1 h2
      rw [← hF] at hE hgo
      simp only [← hF] at htf
      obtain ⟨op, a, b, c, n', vk, vi, vt⟩ := x
      dsimp only at ho
      subst ho
      obtain ⟨x0, x1, x2, x3, x4, x5, x6, x7⟩ := hia
      dsimp only at x0 x1 x2 x3 x4 x5 x6 x7
      have hne : ¬ (o : Int) = 16 := by omega
      have ho16 : (o : Int) < 16 := by omega
      have hbl := World.block_lt_of_cell? _ _ x0
      dsimp only at hbl
      have HX := hid (And.intro hx (And.intro hgo htf))
      clear hx hcd hce hkx hxe hgo htf hF
      go_upto_region 7 with fail
      have HSW := hid (show ∀ wx : World, wx.heap[wr.heap.size]? = some (io o a b c n' vk vi vt) → RB wx w.heap.size mb → wx.cell? ⟨wr.heap.size, 0, none⟩ = some (.int .i64 o) ∧ wx.cell? ⟨wr.heap.size, 1, none⟩ = some (.int .i64 a) ∧ wx.cell? ⟨wr.heap.size, 2, none⟩ = some (.int .i64 b) ∧ wx.cell? ⟨wr.heap.size, 3, none⟩ = some (.int .i64 c) ∧ wx.cell? ⟨wr.heap.size, 4, none⟩ = some (.int .i64 n') ∧ wx.cell? ⟨wr.heap.size, 5, none⟩ = some (.int .i64 vk) ∧ wx.cell? ⟨wr.heap.size, 6, none⟩ = some (.int .i64 vi) ∧ wx.cell? ⟨wr.heap.size, 7, none⟩ = some (.string vt) ∧ wx.cell? ⟨w.heap.size + 1 + 1, o, none⟩ = some (.func (.func F) #[] #[]) ∧ wx.cell? ⟨w.heap.size, 0, none⟩ = some (.pointer (some ⟨mb, 0, none⟩)) from fun wx q1 q2 => by
        obtain ⟨y0, y1, y2, y3, y4, y5, y6, y7⟩ := cells8 q1
        exact ⟨y0, y1, y2, y3, y4, y5, y6, y7, HX.out.2.2 wx q2, by rw [cell_of_row _ _ _ _ _ _ q2.b]; rfl⟩)
      have hb1 : Below wr.heap.size wr (wr.alloc (io o a b c n' vk vi vt)).drew := (below1 wr _).drew
      have HB1 := hid (And.intro (HX.out.1.below hb1) (And.intro (HR.out.2.1.below hb1) (And.intro hb1 (show (wr.alloc (io o a b c n' vk vi vt)).drew.heap[wr.heap.size]? = some (io o a b c n' vk vi vt) from hp_new wr _))))
      have HGO := hid (HX.out.2.1 _ tv lv HB1.out.1 ((H.out.2.1.trans HR.out.2.2).trans (hb1.mono HX.out.1.bB)))
      clear hb1 x0 x1 x2 x3 x4 x5 x6 x7 c2 b0
      obtain ⟨y0, y1, y2, y3, y4, y5, y6, y7, y8, y9⟩ := HSW.out _ HB1.out.2.2.2 HB1.out.2.1
      refine wp_region_still_tail 7 (by kernel_rfl) (by kernel_rfl) ?_
      simp only [List.take_succ_cons, List.take_zero, List.drop_succ_cons, List.drop_zero]
      change wpStill _ _ (wr.alloc (io o a b c n' vk vi vt)).drew _ _ _
      repeat still_step
      refine wpStill_nil ?_
      go_wp2_with (
        go_at_fn F
        refine HGO.out.mono ?_
        rintro e w2 ⟨rfl, hx2, hk2⟩
        have hrb := HB1.out.2.1.kept HB1.out.1 hk2
        obtain ⟨-, -, c2, -, -, c5⟩ := hx2.m.cells
        obtain ⟨al, cl, hlv⟩ := own_shape hx2.lk
        rw [hlv] at c5
        replace c2 := (show w2.cell? ⟨mb, 2, none⟩ = some (.int .i64 k) from c2)
        have H2 := hid (And.intro hx2 (And.intro hk2 hrb))
        clear hx2 hk2 hrb)
      simp only [Exit.noGoto]
      refine leaves_cons (f := 54) (args := #[.pointer (some ⟨w.heap.size, 0, none⟩), .pointer (some ⟨w.heap.size + 1, 0, none⟩)]) (by simp) (by simp [go_sem]) ?_
      refine (catch_ref w.heap.size mb k E _ _ _ w2 H2.out.2.2 c2 c5).mono ?_
      rintro e u' w3 ⟨rfl, rfl, h3, hk3⟩
      have hbw : Below B w w2 := (HR.out.2.2.trans (HB1.out.2.2.1.mono HX.out.1.bB)).trans (HB1.out.1.keptB H2.out.2.1)
      exact ⟨_, ret_eff h3, ⟨_, _, _, rfl⟩, hbw.trans (hk3.below (Nat.le_trans hbB hbw.size) (fun k hk e => by omega))⟩

end Go.Proofs.YthcoigbkdbkojaaGreat

namespace Go.Proofs.YthcoigbkdbkojaaGreat
open Go.RowKit Go.MapKept
open V (hp_new hp_lt hp_below hp_alloc)

theorem vcs_one (l : List Vd) : ∀ u ∈ l.flatMap vcs, u.oneCell' = true := by
  intro u hu
  obtain ⟨x, _, hx⟩ := List.mem_flatMap.1 hu
  simp [vcs] at hx
  rcases hx with rfl | rfl | rfl <;> rfl
theorem lcs_one (l : List (ByteArray × ByteArray)) : ∀ u ∈ l.flatMap lcs, u.oneCell' = true := by
  intro u hu
  obtain ⟨x, _, hx⟩ := List.mem_flatMap.1 hu
  simp [lcs] at hx
  rcases hx with rfl | rfl <;> rfl

/-- An effect that was done, its lists from a block on, none of them in a block. -/
structure Eff (B R : Nat) (c : Mc) (v : Value) (W : World) : Prop where
  ex : ∃ t1 k1 t2 k2 t3 k3, v = .agg #[.int .i64 1, .int .i64 0, .slice t1 c.td.length k1, .slice t2 c.kv.length k2, .slice t3 c.lk.length k3] ∧ W.ownsRow B 28 3 (.slice t1 c.td.length k1) c.td.length (c.td.flatMap vcs) ∧ W.ownsRow B 54 4 (.slice t2 c.kv.length k2) c.kv.length ((dnL c.kv).flatMap ecs) ∧ W.ownsRow B 61 2 (.slice t3 c.lk.length k3) c.lk.length (c.lk.flatMap lcs) ∧
    (¬ (Value.slice t1 c.td.length k1).ownBlock = some R) ∧ (¬ (Value.slice t2 c.kv.length k2).ownBlock = some R) ∧ (¬ (Value.slice t3 c.lk.length k3).ownBlock = some R)

theorem Eff.kept {B R : Nat} {c : Mc} {v : Value} {W W' : World} (h : Eff B R c v W) (hk : Kept (fun k => k = R) W W') : Eff B R c v W' := by
  obtain ⟨t1, k1, t2, k2, t3, k3, e, h1, h2, h3, n1, n2, n3⟩ := h.ex
  exact ⟨t1, k1, t2, k2, t3, k3, e, ownsRow_kept h1 hk (fun q hq e => n1 (by rw [hq, e])), ownsRow_kept h2 hk (fun q hq e => n2 (by rw [hq, e])), ownsRow_kept h3 hk (fun q hq e => n3 (by rw [hq, e])), n1, n2, n3⟩

theorem Eff.low {B R : Nat} {c : Mc} {v : Value} {W : World} (h : Eff B R c v W) {B' R' : Nat} (hB : B' ≤ B) (hR : R' < B) : Eff B' R' c v W := by
  obtain ⟨t1, k1, t2, k2, t3, k3, e, h1, h2, h3, n1, n2, n3⟩ := h.ex
  exact ⟨t1, k1, t2, k2, t3, k3, e, owns_mono h1 hB, owns_mono h2 hB, owns_mono h3 hB, fun e => by have := (h1.lt _ e).1; omega, fun e => by have := (h2.lt _ e).1; omega, fun e => by have := (h3.lt _ e).1; omega⟩

/-- What a call of exec.Run leaves that was done. -/
theorem exec_ok (vt : TypeId) (pv : Nat) (av S : Value) (nm : ByteArray) (ar : Int) (xs : List Ins) (l : List Vd) (w : World) (R1 : Int) (hc : CodeAt w S xs) (ha : Va w av l) (hl : xs.length ≤ 64) (hla : l.length ≤ 1000)
    (hp : procChk nm ar xs = (R1, 0)) (hv : ∀ x ∈ l, chk x.k x.i x.t = 0) (har : ar = l.length) (st : Nat → Mc) (h0 : st 0 = mc0 (.iface vt (.pointer (some ⟨pv, 0, none⟩))) av)
    (hst : ∀ ws mb M, Below w.heap.size w ws → ∀ (k : Nat) x, xs[k]? = some x → Goes1 ws ws.heap.size mb M k x (st k) (st (k + 1)))
    (hn : (st xs.length).kv.length ≤ 1000) (hs : ∀ x ∈ (st xs.length).kv, x.1.size ≤ 1000000) (hkv : ∀ x ∈ (st xs.length).kv, ∃ d : Vd, x.2 = d.val ∧ d.t.size ≤ 1000000) :
    Calls Tryz.prog 12 #[.iface vt (.pointer (some ⟨pv, 0, none⟩)), .agg #[.string nm, .int .i64 ar, S], av] w fun e w' => ∃ v, e = .returned v ∧ Eff (w.heap.size + 2) (w.heap.size + 1) (st xs.length) v w' ∧ Below w.heap.size w w' := by
  refine run12_of vt pv av S nm ar xs l w R1 hc ha hl hla hp hv har (Eff (w.heap.size + 2) (w.heap.size + 1) (st xs.length)) ?_ (fun v W W' h hk => h.kept hk)
  intro W1 W mb M hb1 hsz hmy hbW
  refine (run_ok W1 W W1.heap.size mb M xs st S (Eff W1.heap.size (W.heap.size + 1) (st xs.length)) (by rw [h0]; exact hmy) hbW hl (fun W' hb => (hc.below hb1).below hb) (hst W1 mb M hb1) ?_ (fun v W W' h hk => h.kept hk)).mono ?_
  · intro W2 tv lv hx hrb hb2
    refine (done_any hx hn hs hkv).mono ?_
    rintro e w' ⟨a, c, rfl, ho, hb⟩
    obtain ⟨t1, k1, e1⟩ := own_shape hx.td
    obtain ⟨t3, k3, e3⟩ := own_shape hx.lk
    have o1 := ownsRow_kept hx.td (Kept.ofBelow hb) (fun _ _ e => e)
    have o3 := ownsRow_kept hx.lk (Kept.ofBelow hb) (fun _ _ e => e)
    have n1 := hx.td
    have n3 := hx.lk
    rw [e1] at o1 n1 ⊢
    rw [e3] at o3 n3 ⊢
    refine ⟨t1, _, k1, a, _, c, t3, _, k3, rfl, ⟨t1, k1, a, c, t3, k3, rfl, o1, owns_mono ho hx.bB, o3, ?_, ?_, ?_⟩, hb⟩
    · exact fun e => owns_blk n1 e hrb.e (fun cs e => by injection e with _ e; cases e)
    · exact fun e => by have h1 := (ho.lt _ e).1; have h2 := hp_lt hrb.e; omega
    · exact fun e => owns_blk n3 e hrb.e (fun cs e => by injection e with _ e; cases e)
  · rintro e w' ⟨v, rfl, hE, hb⟩
    have hE2 := hE.low (B' := w.heap.size + 2) (R' := w.heap.size + 1) hsz (by omega)
    obtain ⟨t1, k1, t2, k2, t3, k3, rfl, -⟩ := hE.ex
    exact ⟨_, _, _, _, _, _, _, _, _, _, _, rfl, hE2, hb⟩

/-- What a call of exec.Run leaves that gave up. -/
theorem exec_no (vt : TypeId) (pv : Nat) (av S : Value) (nm : ByteArray) (ar : Int) (xs : List Ins) (l : List Vd) (w : World) (R1 : Int) (hc : CodeAt w S xs) (ha : Va w av l) (hl : xs.length ≤ 64) (hla : l.length ≤ 1000)
    (hp : procChk nm ar xs = (R1, 0)) (hv : ∀ x ∈ l, chk x.k x.i x.t = 0) (har : ar = l.length) (st : Nat → Mc) (h0 : st 0 = mc0 (.iface vt (.pointer (some ⟨pv, 0, none⟩))) av) (k0 : Nat) (hk0 : k0 < xs.length) (E : Int)
    (hst : ∀ ws mb M, Below w.heap.size w ws → ∀ (k : Nat) x, k < k0 → xs[k]? = some x → Goes1 ws ws.heap.size mb M k x (st k) (st (k + 1)))
    (hgv : ∀ ws mb M, Below w.heap.size w ws → ∀ x, xs[k0]? = some x → Gives1 ws ws.heap.size mb M k0 x (st k0) E) :
    Calls Tryz.prog 12 #[.iface vt (.pointer (some ⟨pv, 0, none⟩)), .agg #[.string nm, .int .i64 ar, S], av] w fun e w' => ∃ v, e = .returned v ∧ (∃ al n cl, v = .agg #[.int .i64 E, .int .i64 k0, .slice none 0 0, .slice none 0 0, .slice al n cl]) ∧ Below w.heap.size w w' := by
  refine run12_of vt pv av S nm ar xs l w R1 hc ha hl hla hp hv har (fun v _ => ∃ al n cl, v = .agg #[.int .i64 E, .int .i64 k0, .slice none 0 0, .slice none 0 0, .slice al n cl]) ?_ (fun v W W' h hk => h)
  intro W1 W mb M hb1 hsz hmy hbW
  refine (run_no W1 W W1.heap.size mb M xs st S k0 hk0 E (by rw [h0]; exact hmy) hbW hl (fun W' hb => (hc.below hb1).below hb) (hst W1 mb M hb1) (hgv W1 mb M hb1)).mono ?_
  rintro e w' ⟨⟨al, n, cl, rfl⟩, hb⟩
  exact ⟨_, _, _, _, _, _, _, _, _, _, _, rfl, ⟨al, n, cl, rfl⟩, hb⟩

end Go.Proofs.YthcoigbkdbkojaaGreat
