import Derived.Test.YthjggbcppgbdoaaK20
import Derived.Test.YthjggbcppgbdoaaK18
import Derived.Test.YthjggbcppgbdoaaK07
import Derived.Test.YthjggbcppgbdoaaK15
import Derived.SizedLaws
import Derived.Test.YthjggbcppgbdoaaK19
import Derived.Test.YthjggbcppgbdoaaK23
namespace Go.Proofs.Ythjggbcppgbdoaa
open Go.RowKit

theorem two (w : World) (a b : Obj) : ((w.alloc a).alloc b).heap[w.heap.size]? = some a ∧ ((w.alloc a).alloc b).heap[w.heap.size + 1]? = some b ∧ Below w.heap.size w ((w.alloc a).alloc b) := by
  refine ⟨hp_alloc (hp_new _ _) _, ?_, (below_new _ _).alloc (by simp) _⟩
  have := hp_new (w.alloc a) b
  simpa using this

set_option maxRecDepth 100000 in
set_option maxHeartbeats 4000000 in
theorem all_any (p : Nat) (v : Value) (m : Bool) (l : List Pl) (F : Nat → Prop) (w : World) (hz : ZV w p l m F) (h : RL w v l) (hl : l.length ≤ 500000) (hks : ∀ e ∈ l, e.1.size ≤ 281474976710000) (hF : ∀ j, F j → j < w.heap.size) :
    Calls Try.prog 15 #[.pointer (some ⟨p, 0, none⟩), .agg #[v, .bool m]] w fun x w' => x = .returned (.bool true) ∧ Below w.heap.size w w' := by
  have hmf : ∀ (fn : Fn) (first cap : Array Value) (w : World), (Instr.makeFunc fn first cap).run Try.prog w = .ok (.func fn first cap) w := fun _ _ _ _ => rfl
  have hso := hz.sorted
  have hlt := rl_lt h
  have hcur := cur_first (K := ⟨#[]⟩) hso
  obtain ⟨ao, cap, ev, -, -⟩ := h.1.shape
  subst ev
  obtain ⟨W0, hW0⟩ : ∃ W, W = w.alloc (.cells #[.slice ao l.length cap, .bool m] 34) := ⟨_, rfl⟩
  have X0 := hid (show W0.heap[w.heap.size]? = some (.cells #[.slice ao l.length cap, .bool m] 34 (0, 0)) from hW0 ▸ hp_new _ _)
  have B0 := hid (show Below w.heap.size w W0 from hW0 ▸ below_new _ _)
  have HW := hid hW0
  have AL := hid (show ∀ W key, Below w.heap.size w W → key.size ≤ 281474976710000 → _ from fun W key hb hk => alike_any p (.slice ao l.length cap) m l key F W (hz.below hb) (h.below hb) hl hk)
  have HE := hid (show ∀ W, Below w.heap.size w W → _ from fun W hb => held_law p (.slice ao l.length cap) m l ⟨#[]⟩ F W (hz.below hb) (h.below hb) hl hks (by decide) (fun j hj => Nat.lt_of_lt_of_le (hF j hj) hb.size))
  have D1 := hid (fun W (hb : Below w.heap.size w W) => rget_any (.slice ao l.length cap) m l ⟨#[]⟩ W (h.below hb).1 (by omega))
  have D2 := hid (fun W (hb : Below w.heap.size w W) => dnext (.slice ao l.length cap) m l ⟨#[]⟩ W (h.below hb) (by omega))
  have SR := hid (fun W => srange_any (some ⟨p, 0, none⟩) ⟨#[]⟩ ⟨#[]⟩ W (by decide) (by decide))
  have LP := hid (show ∀ W bo bh bn k q g1 g2 gp ge, Below w.heap.size w W → RgB W g1 g2 gp ge (some ⟨p, 0, none⟩) ⟨#[]⟩ ⟨#[]⟩ → AB W w.heap.size bo bh bn (.slice ao l.length cap) m q k → Cur ⟨#[]⟩ l k q → w.heap.size ≤ bo → w.heap.size ≤ bh → w.heap.size ≤ bn → ge ≠ bn →
      Calls Try.prog 75 #[.func (.func 46) #[] #[.pointer (some ⟨w.heap.size, 0, none⟩), .pointer (some ⟨bo, 0, none⟩), .pointer (some ⟨bh, 0, none⟩), .pointer (some ⟨bn, 0, none⟩)], .pointer (some ⟨g1, 0, none⟩), .pointer (some ⟨g2, 0, none⟩)] W fun y w' => y = .returned (.tuple #[]) ∧ Hid (Below w.heap.size w w' ∧ ∃ k, AB w' w.heap.size bo bh bn (.slice ao l.length cap) m false k) from fun W bo bh bn k q g1 g2 gp ge hb hs ha hc n1 n2 n3 n4 => by
    refine (all_loop (hz.below hb) (h.below hb) hl hks hs ha hc (fun j hj hf => ?_) n4).mono ?_
    · have := hF j hf
      omega
    · rintro y w' ⟨rfl, hA, hk⟩
      exact ⟨rfl, hid ⟨hb.trans (hk.below hb.size (fun j hj e => by omega)), hA⟩⟩)
  have HR := hid h
  have HKS := hid hks
  have HL := hid hl
  clear hz h hl hks hF hlt hW0 hso
  generalize rgetV ⟨#[]⟩ l = gg at hcur D1
  obtain ⟨gy, gq⟩ := gg
  generalize nxP ⟨#[]⟩ l = nn at hcur D2
  obtain ⟨nk, nq⟩ := nn
  simp only at hcur D1 D2
  have HC := hid hcur
  clear hcur
  go_enter Try.func15, Try.ntmps15
  go_wp2_with fail
  rw [← HW.out]
  go_loopw [5] (fun i wr => ∃ k : Nat, i = .int .i64 k ∧ k ≤ l.length ∧ Hid (Below W0.heap.size W0 wr)) (fun i _ => l.length - (intOf i).toNat)
  case atStart => exact ⟨0, rfl, Nat.zero_le _, hid (Below.refl _ _)⟩
  case round =>
    obtain ⟨k, rfl, hk, hb⟩ := hrel
    have BW := hid (below_on B0.out hb.out)
    have XW := hid (hp_below X0.out hb.out (hp_lt X0.out))
    obtain ⟨y0, y1⟩ := cells2 XW.out
    by_cases h1 : k < l.length
    · obtain ⟨g, off, cap', e, -, -, -⟩ := HR.out.1.lits (by omega) (by omega)
      injection e with e1 _ e3
      subst e1 e3
      have h1k : (k : Int) < l.length := by omega
      have hkl : k + 1 ≤ 500000 := by have := HL.out; omega
      have v0 : wr.cell? ⟨g, off + k * 7, none⟩ = some (.string l[k].1) := by
        have := Rl.cells HR.out.1 k h1 0 (.string l[k].1) (by omega) rfl
        exact (BW.out.cell (p := ⟨g, off + k * 7, none⟩) (World.block_lt_of_cell? _ _ this)).trans this
      have AK := hid (AL.out wr.drew l[k].1 BW.out.drew (HKS.out _ (List.getElem_mem h1)))
      generalize l[k].1 = ky at v0 AK
      clear LP SR HE D1 D2 HC HKS HR AL HW
      go_wp2_with fail
      go_region_with (
        go_at_call 13
        refine AK.out.mono ?_
        rintro e w2 ⟨rfl, hb2⟩
        have B2 := hid (undrew hb2)
        clear hb2)
      all_goals
        go_wp2
        go_roundw
        case rel => exact ⟨k + 1, by go_num, by omega, hid (below_on hb.out B2.out)⟩
        case measure => simp [intOf]; omega
    · have h1k : (l.length : Int) ≤ k := by omega
      clear AL HKS HR HW hk h1
      go_upto_region 8 with fail
      obtain ⟨a1, a2, ab⟩ := two wr (.cells #[.string ⟨#[]⟩] 9) (.cells #[.bool true] 4)
      have A1 := hid a1
      have A2 := hid a2
      have AW := hid (hp_below XW.out ab (hp_lt XW.out))
      have AB8 := hid (below_on BW.out ab)
      have NW := hid (show w.heap.size < wr.heap.size from hp_lt XW.out)
      clear a1 a2 ab y0 y1
      generalize (wr.alloc (.cells #[.string ⟨#[]⟩] 9)).alloc (.cells #[.bool true] 4) = W8 at A1 A2 AW AB8 ⊢
      obtain ⟨y0, y1⟩ := cells2 AW.out
      have E1 := hid (D1.out W8 AB8.out)
      clear D1
      have STEP := hid (show ∀ w9, Below W8.heap.size W8 w9 → w9.heap[w.heap.size]? = some (.cells #[.slice ao l.length cap, .bool m] 34 (0, 0)) ∧ w9.heap[wr.heap.size]? = some (.cells #[.string ⟨#[]⟩] 9 (0, 0)) ∧ w9.heap[wr.heap.size + 1]? = some (.cells #[.bool true] 4 (0, 0)) ∧ Below w.heap.size w w9 from fun w9 hb => ⟨hp_below AW.out hb (hp_lt AW.out), hp_below A1.out hb (hp_lt A1.out), hp_below A2.out hb (hp_lt A2.out), below_on AB8.out hb⟩)
      cases gq
      all_goals
        simp only [if_true, if_false, Bool.false_eq_true] at HC
        go_upto_region 11 with (first
        | (go_at_call 40
           refine E1.out.mono ?_
           rintro e w9 ⟨rfl, hb9⟩
           have S9 := hid (STEP.out w9 hb9)
           obtain ⟨z0, z1⟩ := cells2 S9.out.1
           clear hb9 E1 y0 y1)
        | (go_at_call 41
           refine (D2.out w9 S9.out.2.2.2).mono ?_
           rintro e w10 ⟨rfl, hb10⟩
           have P1 := hid (hp_below S9.out.1 hb10 (hp_lt S9.out.1))
           have P2 := hid (hp_below S9.out.2.1 hb10 (hp_lt S9.out.2.1))
           have P3 := hid (hp_below S9.out.2.2.1 hb10 (hp_lt S9.out.2.2.1))
           have P4 := hid (below_on S9.out.2.2.2 hb10)
           have f1 : w10.frozen? ⟨wr.heap.size, 0, none⟩ = false := free_of_block P2.out
           have f2 : w10.frozen? ⟨wr.heap.size + 1, 0, none⟩ = false := free_of_block P3.out
           have u2 := cells1 P2.out
           have u3 := cells1 P3.out
           clear hb10 z0 z1))
      have C1 := hid (hp_set (hp_set P1.out (show w.heap.size ≠ wr.heap.size by have := NW.out; omega) (.string nk) (p := ⟨wr.heap.size, 0, none⟩)) (show w.heap.size ≠ wr.heap.size + 1 by have := NW.out; omega) (.bool nq) (p := ⟨wr.heap.size + 1, 0, none⟩))
      have C2 := hid (hp_set (set_block (i := 0) P2.out (.string nk)) (show wr.heap.size ≠ wr.heap.size + 1 by omega) (.bool nq) (p := ⟨wr.heap.size + 1, 0, none⟩))
      have C3 := hid (set_block (i := 0) (hp_set P3.out (show wr.heap.size + 1 ≠ wr.heap.size by omega) (.string nk) (p := ⟨wr.heap.size, 0, none⟩)) (.bool nq))
      have C4 := hid (show Below w.heap.size w ((w10.setCell ⟨wr.heap.size, 0, none⟩ (.string nk)).setCell ⟨wr.heap.size + 1, 0, none⟩ (.bool nq)) from (((Kept.ofBelow P4.out).mono (S' := fun j => j = wr.heap.size ∨ j = wr.heap.size + 1) (fun _ _ e => e.elim)).setCell (p := ⟨wr.heap.size, 0, none⟩) (fun _ => .inl rfl) _ |>.setCell (p := ⟨wr.heap.size + 1, 0, none⟩) (fun _ => .inr rfl) _).below (Nat.le_refl _) (fun j hj e => by have := NW.out; omega))
      clear P1 P2 P3 P4 f1 f2 u2 u3
      generalize (w10.setCell ⟨wr.heap.size, 0, none⟩ (.string nk)).setCell ⟨wr.heap.size + 1, 0, none⟩ (.bool nq) = W11 at C1 C2 C3 C4 ⊢
      rotate_left
      have C1 := hid S9.out.1
      have C2 := hid S9.out.2.1
      have C3 := hid S9.out.2.2.1
      have C4 := hid S9.out.2.2.2
      clear S9 z0 z1
      obtain ⟨W11, hW11⟩ : ∃ W, W = w9 := ⟨_, rfl⟩
      subst hW11
      rotate_left
      all_goals
        have G1 := hid (hp_alloc C1.out (.cells #[.bool true] 4))
        have G2 := hid (hp_alloc C2.out (.cells #[.bool true] 4))
        have G3 := hid (hp_alloc C3.out (.cells #[.bool true] 4))
        have G5 := hid (hp_new W11 (.cells #[.bool true] 4))
        have G4 := hid (below_on C4.out (below_new W11 (.cells #[.bool true] 4)))
        have LT := hid (show wr.heap.size + 1 < W11.heap.size from hp_lt C3.out)
        clear C1 C2 C3 C4 STEP D2
        go_wp2_with (first
          | (go_at_call 19
             refine (SR.out _).mono ?_
             rintro e w13 ⟨g1, g2, gp, ge, rfl, hs, hb13, e1, e2, ep, ee⟩
             have B13 := hid (below_on G4.out hb13)
             have HA := hid (show AB w13 w.heap.size W11.heap.size (wr.heap.size + 1) wr.heap.size (.slice ao l.length cap) m _ _ from ⟨hp_below G1.out hb13 (hp_lt G1.out), hp_below G5.out hb13 (hp_lt G5.out), hp_below G3.out hb13 (hp_lt G3.out), hp_below G2.out hb13 (hp_lt G2.out), by have := LT.out; omega⟩)
             have L2 := hid (LP.out w13 W11.heap.size (wr.heap.size + 1) wr.heap.size _ _ g1 g2 gp ge B13.out hs HA.out HC.out (by have := LT.out; have := NW.out; omega) (by have := NW.out; omega) (by have := NW.out; omega) (by have := LT.out; simp at ee; omega))
             clear hb13 hs e1 e2 ep ee)
          | (go_at_call 75
             refine L2.out.mono ?_
             rintro e w14 ⟨rfl, hR⟩
             obtain ⟨B14, kk, ha14⟩ := hR.out
             have B15 := hid B14
             obtain ⟨z0, z1⟩ := cells2 ha14.w
             have z2 := cells1 ha14.o
             have z3 := cells1 ha14.h
             clear hR L2 B14 ha14)
          | (go_at_call 14
             refine (HE.out w14 B15.out).mono ?_
             rintro e w16 ⟨rfl, hb16⟩
             have B16 := hid (below_on B15.out hb16)
             clear hb16))
        go_ret
        exact ⟨rfl, B16.out⟩

end Go.Proofs.Ythjggbcppgbdoaa

namespace Go.Proofs.Ythjggbcppgbdoaa
open Go.RowKit

theorem Try.cells3 : Try.prog.cellsOf 3 = 1 := by kernel_rfl
theorem Try.cells9 : Try.prog.cellsOf 9 = 1 := by kernel_rfl
theorem flat_one {α : Type} (f : α → Value) : ∀ ys : List α, ys.flatMap (fun y => [f y]) = ys.map f
  | [] => rfl
  | y :: ys => by rw [List.flatMap_cons, List.map_cons, flat_one f ys]; rfl

section
variable {H : Type} {enc : TypeId × Value → H} {W : World} {base : Nat} {held : Bool} {fuel : Nat} {cs : List Value} {x : DataW H × List MemPlace}

theorem int_of_trod (h : DataW.trod enc Try.prog W base (fun _ => true) held fuel 3 cs = some x) : ∃ y : Int, cs = [.int .i64 y] := by
  obtain ⟨a0, e0, _, w0⟩ := DataW.trod_int Try.underlying3 h
  exact ⟨a0, e0⟩
theorem str_of_trod (h : DataW.trod enc Try.prog W base (fun _ => true) held fuel 9 cs = some x) (hw : ∀ m ∈ x.1.weights Try.prog 9, m ≤ reachBytes) : ∃ y : ByteArray, y.size ≤ 140737488355328 ∧ cs = [.string y] := by
  obtain ⟨s, e4, e5, w4⟩ := DataW.trod_string Try.underlying9 h
  refine ⟨s, ?_, e4⟩
  rw [e5] at hw
  have h1 := hw s.data.toList.length (by simp [DataW.weights])
  have h2 := reachBytes_lt
  have h3 : s.size = s.data.toList.length := by rw [Array.length_toList]; rfl
  omega

theorem mem_weightsAll {P : Program} {e : TypeId} : ∀ {ds : List (DataW H)} {d : DataW H} {n : Nat}, d ∈ ds → n ∈ d.weights P e → n ∈ DataW.weightsAll P e ds
  | a :: ds, d, n, hd, hn => by
    rw [DataW.weightsAll, List.mem_append]
    rcases List.mem_cons.1 hd with rfl | hd
    · exact .inl hn
    · exact .inr (mem_weightsAll hd hn)

end
end Go.Proofs.Ythjggbcppgbdoaa

namespace Go.Proofs.Ythjggbcppgbdoaa
open Go.RowKit

theorem Try.cells36 : Try.prog.cellsOf 36 = 6 := by kernel_rfl

instance : Inhabited Sp := ⟨⟨0, 0, 0, ⟨#[]⟩, ⟨#[]⟩, ⟨#[]⟩⟩⟩
def Sp.cl (x : Sp) : List Value := [.int .i64 x.kind, .int .i64 x.v, .int .i64 x.n, .string x.key, .string x.to, .string x.other]
theorem Sp.len (x : Sp) : x.cl.length = 6 := rfl

section
variable {H : Type} {enc : TypeId × Value → H} {W : World} {base : Nat} {held : Bool} {fuel : Nat} {cs : List Value} {x : DataW H × List MemPlace}

set_option maxRecDepth 100000 in
theorem step_of_trod (h : DataW.trod enc Try.prog W base (fun _ => true) held fuel 36 cs = some x) (hw : ∀ m ∈ x.1.weights Try.prog 36, m ≤ reachBytes) : ∃ y : Sp, (y.key.size ≤ 140737488355328 ∧ y.to.size ≤ 140737488355328 ∧ y.other.size ≤ 140737488355328) ∧ cs = y.cl := by
  obtain ⟨xs, n, _, rfl, hl, hlen, hf⟩ := DataW.trod_struct Try.underlying36 h
  rw [Try.cells36] at hl
  match cs, hl, xs, hlen with
  | [c0, c1, c2, c3, c4, c5], _, [y0, y1, y2, y3, y4, y5], _ =>
    have f0 : DataW.trod enc Try.prog W base (fun _ => true) held n 3 (([c0, c1, c2, c3, c4, c5].drop 0).take (Try.prog.cellsOf 3)) = some y0 := hf 0 _ rfl
    have f1 : DataW.trod enc Try.prog W base (fun _ => true) held n 3 (([c0, c1, c2, c3, c4, c5].drop 1).take (Try.prog.cellsOf 3)) = some y1 := hf 1 _ rfl
    have f2 : DataW.trod enc Try.prog W base (fun _ => true) held n 3 (([c0, c1, c2, c3, c4, c5].drop 2).take (Try.prog.cellsOf 3)) = some y2 := hf 2 _ rfl
    have f3 : DataW.trod enc Try.prog W base (fun _ => true) held n 9 (([c0, c1, c2, c3, c4, c5].drop 3).take (Try.prog.cellsOf 9)) = some y3 := hf 3 _ rfl
    have f4 : DataW.trod enc Try.prog W base (fun _ => true) held n 9 (([c0, c1, c2, c3, c4, c5].drop 4).take (Try.prog.cellsOf 9)) = some y4 := hf 4 _ rfl
    have f5 : DataW.trod enc Try.prog W base (fun _ => true) held n 9 (([c0, c1, c2, c3, c4, c5].drop 5).take (Try.prog.cellsOf 9)) = some y5 := hf 5 _ rfl
    rw [Try.cells3] at f0 f1 f2
    rw [Try.cells9] at f3 f4 f5
    have hw' : ∀ m ∈ DataW.weightsEach Try.prog [3, 3, 3, 9, 9, 9] [y0.1, y1.1, y2.1, y3.1, y4.1, y5.1], m ≤ reachBytes := by
      intro m hm
      refine hw m ?_
      simp only [DataW.weights, Try.underlying36]
      exact hm
    obtain ⟨a0, e0⟩ := int_of_trod f0
    obtain ⟨a1, e1⟩ := int_of_trod f1
    obtain ⟨a2, e2⟩ := int_of_trod f2
    obtain ⟨a3, b3, e3⟩ := str_of_trod f3 (fun m hm => hw' m (DataW.weights_mem_each (j := 3) (t := 9) (d := y3.1) rfl rfl m hm))
    obtain ⟨a4, b4, e4⟩ := str_of_trod f4 (fun m hm => hw' m (DataW.weights_mem_each (j := 4) (t := 9) (d := y4.1) rfl rfl m hm))
    obtain ⟨a5, b5, e5⟩ := str_of_trod f5 (fun m hm => hw' m (DataW.weights_mem_each (j := 5) (t := 9) (d := y5.1) rfl rfl m hm))
    simp at e0 e1 e2 e3 e4 e5
    subst e0 e1 e2 e3 e4 e5
    exact ⟨⟨a0, a1, a2, a3, a4, a5⟩, ⟨b3, b4, b5⟩, rfl⟩

/-- A slice whose elements are read, element by element. -/
theorem rf_of_trod_w {t e : TypeId} {α : Type} [Inhabited α] (f : α → List Value) (p : α → Prop) (m : Nat) (hf : ∀ y, (f y).length = m) (h1 : ∀ y, ∀ u ∈ f y, u.oneCell' = true)
    (ht : Try.prog.underlying t = some (.slice e)) (hm : Try.prog.cellsOf e = m) (hel : ∀ n cs' x', DataW.trod enc Try.prog W base (fun _ => true) held n e cs' = some x' → (∀ m ∈ x'.1.weights Try.prog e, m ≤ reachBytes) → ∃ y : α, p y ∧ cs' = f y) (hw : ∀ m ∈ x.1.weights Try.prog t, m ≤ reachBytes)
    (h : DataW.trod enc Try.prog W base (fun _ => true) held fuel t cs = some x) : ∃ (v : Value) (ys : List α), cs = [v] ∧ Rf W m v ys.length (ys.flatMap f) ∧ ∀ y ∈ ys, p y := by
  rcases Go.Deep.open_slice ht h with ⟨rfl, _⟩ | ⟨a, len, cap, mm, n, D, Pl, rfl, _, hl, hcm, hmm, hxe, hx⟩
  · exact ⟨_, [], rfl, rf_nil W m, (fun _ h => nomatch h)⟩
  · simp only [if_true] at hmm
    subst hmm
    rw [hm] at hx
    have key : ∀ i, i < len → ∃ y : α, p y ∧ ∀ c, c < m → W.cell? ((a.add (i * m)).add c) = (f y)[c]? := by
      intro i hi
      obtain ⟨cs', q1, q2⟩ := hx i (by omega)
      obtain ⟨y, hy, rfl⟩ := hel _ _ _ q2 (fun m hm => hw m (by
        rw [hxe]
        simp only [DataW.weights, ht]
        exact List.mem_cons_of_mem _ (List.mem_append_left _ (mem_weightsAll (List.mem_map.2 ⟨i, by simpa using hi, rfl⟩) hm))))
      exact ⟨y, hy, fun c hc => (World.cells?_some q1).2.2 c hc⟩
    obtain ⟨F, hF⟩ := Go.Deep.choose_lt key
    refine ⟨_, (List.range len).map F, rfl, ⟨flat_len f m hf _, ?_, .inr ⟨a, mm, by simp, by simpa using hl, hcm, ?_⟩⟩, ?_⟩
    · intro u hu
      obtain ⟨y, _, hy⟩ := List.mem_flatMap.1 hu
      exact h1 y u hy
    · intro j u hu
      have hmp : 0 < m := by
        rcases Nat.eq_zero_or_pos m with h0 | h0
        · have hz := flat_len f m hf ((List.range len).map F)
          rw [h0, Nat.mul_zero] at hz
          rw [List.eq_nil_of_length_eq_zero hz] at hu
          simp at hu
        · exact h0
      have hj : j = j / m * m + j % m := by rw [Nat.mul_comm]; exact (Nat.div_add_mod j m).symm
      have hc : j % m < m := Nat.mod_lt _ hmp
      rw [hj, flat_get f m hf _ _ _ hc] at hu
      rw [List.getElem?_map] at hu
      have hlt : j / m < len := by
        rcases Nat.lt_or_ge (j / m) len with h | h
        · exact h
        · rw [List.getElem?_eq_none (by simpa using h)] at hu
          simp at hu
      simp [hlt] at hu
      have := (hF (j / m) hlt).2 (j % m) hc
      rw [hu, add_add, ← hj] at this
      exact this
    · intro y hy
      simp at hy
      obtain ⟨i, hi, rfl⟩ := hy
      exact (hF i hi).1

theorem steps_of_trod (h : DataW.trod enc Try.prog W base (fun _ => true) held fuel 22 cs = some x) (hw : ∀ m ∈ x.1.weights Try.prog 22, m ≤ reachBytes) : ∃ (v : Value) (ys : List Sp), cs = [v] ∧ Rf W 6 v ys.length (ys.flatMap Sp.cl) ∧ ∀ y ∈ ys, y.key.size ≤ 140737488355328 ∧ y.to.size ≤ 140737488355328 ∧ y.other.size ≤ 140737488355328 :=
  rf_of_trod_w Sp.cl (fun y : Sp => y.key.size ≤ 140737488355328 ∧ y.to.size ≤ 140737488355328 ∧ y.other.size ≤ 140737488355328) 6 Sp.len (fun y u hu => by simp [Sp.cl] at hu; rcases hu with rfl | rfl | rfl | rfl | rfl | rfl <;> rfl) Try.underlying22 Try.cells36 (fun _ _ _ h hw => step_of_trod h hw) hw h
end

end Go.Proofs.Ythjggbcppgbdoaa

namespace Go.Proofs.Ythjggbcppgbdoaa
open Go.RowKit

/-- A script that is not too much. -/
structure Sm (ys : List Sp) : Prop where
  n : ys.length ≤ 200
  k : ∀ y ∈ ys, y.key.size ≤ 50000 ∧ y.to.size ≤ 50000 ∧ y.other.size ≤ 50000

def MuP (ys : List Sp) (w : World) : Ending → World → Prop := fun x w' => ∃ b, x = .returned (.bool b) ∧ (b = false → Sm ys) ∧ Below w.heap.size w w'

set_option maxRecDepth 100000 in
set_option maxHeartbeats 4000000 in
theorem much_any (sv : Value) (ys : List Sp) (w : World) (hr : Rf w 6 sv ys.length (ys.flatMap Sp.cl)) (hys : ∀ y ∈ ys, y.key.size ≤ 140737488355328 ∧ y.to.size ≤ 140737488355328 ∧ y.other.size ≤ 140737488355328) :
    Calls Try.prog 9 #[sv] w (MuP ys w) := by
  obtain ⟨ao, cap, e, -, -⟩ := hr.shape
  have YES := hid (show ∀ w', Below w.heap.size w w' → MuP ys w (.returned (.bool true)) w' from fun w' hb => ⟨true, rfl, fun h => (by cases h), hb⟩)
  have NO := hid (show Sm ys → ∀ w' b, Below w.heap.size w w' → MuP ys w (.returned (.bool b)) w' from fun hs w' b hb => ⟨b, rfl, fun _ => hs, hb⟩)
  have HR := hid hr
  have HY := hid hys
  subst e
  generalize hP : MuP ys w = PP at YES NO ⊢
  clear hP hr hys
  by_cases h200 : 200 < ys.length
  · have b0 : decide ((200 : Int) < ys.length) = true := by simp; omega
    clear h200
    go_enter Try.func9, Try.ntmps9
    go_wp2
    exact YES.out _ (Below.refl _ _)
  · have b0 : decide ((200 : Int) < ys.length) = false := by simp; omega
    have H2 := hid (show ys.length ≤ 200 by omega)
    clear h200
    go_enter Try.func9, Try.ntmps9
    go_wp2
    go_loopw [3, 4] (fun n i wr => ∃ k s : Nat, n = .int .i64 s ∧ i = .int .i64 k ∧ k ≤ ys.length ∧ s ≤ k * 150000 ∧ Hid (∀ j (hj : j < ys.length), j < k → ys[j].key.size ≤ 50000 ∧ ys[j].to.size ≤ 50000 ∧ ys[j].other.size ≤ 50000) ∧ Hid (Below w.heap.size w wr)) (fun _ i _ => ys.length - (intOf i).toNat)
    case atStart => exact ⟨0, 0, rfl, rfl, Nat.zero_le _, by omega, hid (fun j hj h => by omega), hid (Below.refl _ _)⟩
    case round =>
      obtain ⟨k, s, rfl, rfl, hk, hs, hno, hb⟩ := hrel
      by_cases h1 : k < ys.length
      · obtain ⟨g, off, cap', e, -, -, hcell⟩ := (HR.out.below hb.out).lits (by omega) (by omega)
        injection e with e1 _ e3
        subst e1 e3
        obtain ⟨x, hxe⟩ : ∃ x, ys[k] = x := ⟨_, rfl⟩
        have hxk := HY.out x (by rw [← hxe]; exact List.getElem_mem h1)
        have hfl : ∀ c u, c < 6 → x.cl[c]? = some u → (ys.flatMap Sp.cl)[k * 6 + c]? = some u := fun c u hc hu => by
          rw [flat_get Sp.cl 6 Sp.len ys k c hc, List.getElem?_eq_getElem h1, hxe]
          exact hu
        have v3 := hcell _ _ (hfl 3 _ (by omega) rfl)
        have v4 := hcell _ _ (hfl 4 _ (by omega) rfl)
        have v5 := hcell _ _ (hfl 5 _ (by omega) rfl)
        simp only [← Nat.add_assoc] at v3 v4 v5
        have NX := hid (show x.key.size ≤ 50000 → x.to.size ≤ 50000 → x.other.size ≤ 50000 → ∀ j (hj : j < ys.length), j < k + 1 → ys[j].key.size ≤ 50000 ∧ ys[j].to.size ≤ 50000 ∧ ys[j].other.size ≤ 50000 from fun a1 a2 a3 j hj hjk => by
          by_cases hjk2 : j < k
          · exact hno.out j hj hjk2
          · have : j = k := by omega
            subst this
            rw [hxe]
            exact ⟨a1, a2, a3⟩)
        have h1k : (k : Int) < ys.length := by omega
        have hk2 := H2.out
        obtain ⟨xk, xv, xn, key, to, oth⟩ := x
        simp only at hxk v3 v4 v5 NX
        clear hcell hfl hxe NO b0
        by_cases a1 : key.size ≤ 50000
        · have b1 : decide ((50000 : Int) < key.size) = false := by simp; omega
          by_cases a2 : to.size ≤ 50000
          · have b2 : decide ((50000 : Int) < to.size) = false := by simp; omega
            by_cases a3 : oth.size ≤ 50000
            · have b3 : decide ((50000 : Int) < oth.size) = false := by simp; omega
              have N2 := hid (NX.out a1 a2 a3)
              have w1 : IntKind.i64.wrap ((s : Int) + key.size) = (s : Int) + key.size := by rw [IntKind.wrap_i64]; omega
              have w2 : IntKind.i64.wrap ((s : Int) + key.size + to.size) = (s : Int) + key.size + to.size := by rw [IntKind.wrap_i64]; omega
              have w3 : IntKind.i64.wrap ((s : Int) + key.size + to.size + oth.size) = (s : Int) + key.size + to.size + oth.size := by rw [IntKind.wrap_i64]; omega
              have A := hid (And.intro a1 (And.intro a2 (And.intro a3 hs)))
              clear a1 a2 a3 hxk NX YES hs
              go_wp2_with fail
              go_quiet (fail)
              go_wp2
              go_roundw
              case rel =>
                obtain ⟨a1, a2, a3, hs⟩ := A.out
                refine ⟨k + 1, s + key.size + to.size + oth.size, ?_, by go_num, by omega, by omega, N2, hid (blw_drewN hb.out)⟩
                congr 1
              case measure => simp [intOf]; omega
            · have b3 : decide ((50000 : Int) < oth.size) = true := by simp; omega
              clear a1 a2 a3 hxk NX hs
              go_wp2_with fail
              exact YES.out _ hb.out
          · have b2 : decide ((50000 : Int) < to.size) = true := by simp; omega
            clear a1 a2 hxk NX hs
            go_wp2_with fail
            exact YES.out _ hb.out
        · have b1 : decide ((50000 : Int) < key.size) = true := by simp; omega
          clear a1 hxk NX hs
          go_wp2_with fail
          exact YES.out _ hb.out
      · have h1k : (ys.length : Int) ≤ k := by omega
        have hsm : Sm ys := ⟨H2.out, fun y hy => by
          obtain ⟨j, hj, rfl⟩ := List.getElem_of_mem hy
          exact hno.out j hj (by omega)⟩
        have N2 := hid (NO.out hsm)
        clear hsm NO YES HY HR
        go_wp2_with fail
        exact N2.out _ _ hb.out

end Go.Proofs.Ythjggbcppgbdoaa

namespace Go.Proofs.Ythjggbcppgbdoaa
open Go.RowKit

theorem zv_zero {W : World} {p : Nat} (h : W.heap[p]? = some (.cells #[.pointer none, .int .i64 0, .int .i64 0, .bool false] 31 (0, 0))) : ZV W p [] false (fun j => j = p) := by
  refine ⟨⟨.nil, fun _ => ⟨0, 0, false, false, false, false⟩, ⟨⟨h, trivial, List.Pairwise.nil, List.Pairwise.nil⟩, fun e he => (by cases he), List.Pairwise.nil, fun e he => (by cases he)⟩, rfl, ?_⟩, fun _ e he => (by cases he), fun e he => (by cases he)⟩
  rintro j (rfl | hj | ⟨e, he, -⟩)
  · rfl
  · cases hj
  · cases he

/-- Two stores that tell the same, one document's store in its box. -/
structure Pp (w : World) (bw p1 p2 : Nat) (v : Value) (m : Bool) (l : List Pl) (N : Nat) (F1 F2 : Nat → Prop) (W : World) : Prop where
  s : St W p1 v m l F1
  z : ZV W p2 l m F2
  za : ∀ j, v.ownBlock = some j → ¬ F2 j
  zl : ∀ j, F2 j → j < W.heap.size
  dj : ∀ j, F1 j → ¬ F2 j
  o1 : ∀ j, F1 j → w.heap.size ≤ j
  o2 : ∀ j, F2 j → w.heap.size ≤ j
  bx : W.heap[bw]? = some (.cells #[v, .bool m] 34 (0, 0))
  n1 : ¬ F1 bw
  n2 : ¬ F2 bw
  nb : w.heap.size ≤ bw
  bd : Bd N l
  be : Below w.heap.size w W

theorem Pp.below {w : World} {bw p1 p2 : Nat} {v : Value} {m : Bool} {l : List Pl} {N : Nat} {F1 F2 : Nat → Prop} {W W' : World} (h : Pp w bw p1 p2 v m l N F1 F2 W) (hb : Below W.heap.size W W') : Pp w bw p1 p2 v m l N F1 F2 W' :=
  ⟨h.s.below hb, h.z.below hb, h.za, fun j hj => Nat.lt_of_lt_of_le (h.zl j hj) hb.size, h.dj, h.o1, h.o2, hp_below h.bx hb (hp_lt h.bx), h.n1, h.n2, h.nb, h.bd, below_on h.be hb⟩

/-- Behind the first store's step. -/
structure Q1 (w : World) (bw p1 p2 : Nat) (x : Sp) (v : Value) (m : Bool) (l : List Pl) (N : Nat) (F1 F2 : Nat → Prop) (v1 : Value) (W : World) : Prop where
  s : St W p1 v1 (stepL x l m).2 (stepL x l m).1 F1
  z : St W p2 v m l F2
  zv : ∀ j, v1.ownBlock = some j → ¬ F2 j
  dj : ∀ j, F1 j → ¬ F2 j
  o1 : ∀ j, F1 j → w.heap.size ≤ j
  o2 : ∀ j, F2 j → w.heap.size ≤ j
  bx : W.heap[bw]? = some (.cells #[v, .bool m] 34 (0, 0))
  n1 : ¬ F1 bw
  n2 : ¬ F2 bw
  nb : w.heap.size ≤ bw
  bd : Bd N l
  be : Below w.heap.size w W

theorem Q1.below {w : World} {bw p1 p2 : Nat} {x : Sp} {v : Value} {m : Bool} {l : List Pl} {N : Nat} {F1 F2 : Nat → Prop} {v1 : Value} {W W' : World} (h : Q1 w bw p1 p2 x v m l N F1 F2 v1 W) (hb : Below W.heap.size W W') : Q1 w bw p1 p2 x v m l N F1 F2 v1 W' :=
  ⟨h.s.below hb, h.z.below hb, h.zv, h.dj, h.o1, h.o2, hp_below h.bx hb (hp_lt h.bx), h.n1, h.n2, h.nb, h.bd, below_on h.be hb⟩

theorem pp_step1 {w : World} {bw p1 p2 : Nat} {x : Sp} {v : Value} {m : Bool} {l : List Pl} {N : Nat} {F1 F2 : Nat → Prop} {W : World} (h : Pp w bw p1 p2 v m l N F1 F2 W) (hN : N ≤ 300000) (hko : x.other.size ≤ 50000) (hkt : x.to.size ≤ 50000) (hkk : x.key.size ≤ 50000) :
    Calls Try.prog 12 #[.pointer (some ⟨p1, 0, none⟩), .agg #[v, .bool m], x.agg] W fun y w' => ∃ v1, y = .returned (.tuple #[.agg #[v1, .bool (stepL x l m).2], .bool true]) ∧ ∃ G1 G2, Q1 w bw p1 p2 x v m l N G1 G2 v1 w' ∧ Kept F1 W w' ∧ ∀ j, G2 j → F2 j := by
  refine (zstep_any x p1 v m l F1 N W h.s h.bd hN hko hkt hkk).mono ?_
  rintro y w' ⟨v1, rfl, G1, g1, g2, g3⟩
  refine ⟨v1, rfl, G1, ?_⟩
  have hz := h.z.kept g3 (fun j hj hf => h.dj j hf hj)
  have hr : RL w' v l := ⟨h.s.r.1.kept g3 h.s.ap, h.s.r.2⟩
  obtain ⟨G2, f1, f2, f3⟩ := St.mk' hz hr
  have hbw := hp_lt h.bx
  refine ⟨G2, ⟨g1, f2, fun j hj => f3 v1 _ g1.r j hj, fun j hj hf => ?_, fun j hj => ?_, fun j hj => h.o2 j (f1 j hj), hp_kept h.bx g3 h.n1, fun hf => ?_, fun hf => h.n2 (f1 _ hf), h.nb, h.bd, ?_⟩, g3, f1⟩
  · have hf2 := f1 j hf
    rcases g2 j hj with e | e
    · exact h.dj j e hf2
    · have := h.zl j hf2
      omega
  · rcases g2 j hj with e | e
    · exact h.o1 j e
    · have := h.be.size
      omega
  · rcases g2 _ hf with e | e
    · exact h.n1 e
    · omega
  · exact h.be.trans (g3.below h.be.size (fun j hj hf => by have := h.o1 j hf; omega))

/-- Behind both steps. -/
structure Q2 (w : World) (bw p1 p2 : Nat) (x : Sp) (v : Value) (m : Bool) (l : List Pl) (N : Nat) (F1 F2 : Nat → Prop) (v1 : Value) (W : World) : Prop where
  s : St W p1 v1 (stepL x l m).2 (stepL x l m).1 F1
  z : ZV W p2 (stepL x l m).1 (stepL x l m).2 F2
  zv : ∀ j, v1.ownBlock = some j → ¬ F2 j
  zl : ∀ j, F2 j → j < W.heap.size
  dj : ∀ j, F1 j → ¬ F2 j
  o1 : ∀ j, F1 j → w.heap.size ≤ j
  o2 : ∀ j, F2 j → w.heap.size ≤ j
  bx : W.heap[bw]? = some (.cells #[v, .bool m] 34 (0, 0))
  n1 : ¬ F1 bw
  n2 : ¬ F2 bw
  nb : w.heap.size ≤ bw
  bd : Bd N l
  be : Below w.heap.size w W

theorem Q2.below {w : World} {bw p1 p2 : Nat} {x : Sp} {v : Value} {m : Bool} {l : List Pl} {N : Nat} {F1 F2 : Nat → Prop} {v1 : Value} {W W' : World} (h : Q2 w bw p1 p2 x v m l N F1 F2 v1 W) (hb : Below W.heap.size W W') : Q2 w bw p1 p2 x v m l N F1 F2 v1 W' :=
  ⟨h.s.below hb, h.z.below hb, h.zv, fun j hj => Nat.lt_of_lt_of_le (h.zl j hj) hb.size, h.dj, h.o1, h.o2, hp_below h.bx hb (hp_lt h.bx), h.n1, h.n2, h.nb, h.bd, below_on h.be hb⟩

theorem pp_step2 {w : World} {bw p1 p2 : Nat} {x : Sp} {v : Value} {m : Bool} {l : List Pl} {N : Nat} {F1 F2 : Nat → Prop} {v1 : Value} {W : World} (h : Q1 w bw p1 p2 x v m l N F1 F2 v1 W) (hN : N ≤ 300000) (hko : x.other.size ≤ 50000) (hkt : x.to.size ≤ 50000) (hkk : x.key.size ≤ 50000) :
    Calls Try.prog 12 #[.pointer (some ⟨p2, 0, none⟩), .agg #[v, .bool m], x.agg] W fun y w' => ∃ v2, y = .returned (.tuple #[.agg #[v2, .bool (stepL x l m).2], .bool true]) ∧ (∃ k, RL w' v2 k) ∧ ∃ G2, Q2 w bw p1 p2 x v m l N F1 G2 v1 w' ∧ Kept F2 W w' := by
  refine (zstep_any x p2 v m l F2 N W h.z h.bd hN hko hkt hkk).mono ?_
  rintro y w' ⟨v2, rfl, G2, g1, g2, g3⟩
  have hbw := hp_lt h.bx
  have hlt := rl_lt h.s.r
  refine ⟨v2, rfl, ⟨_, g1.r⟩, G2, ⟨h.s.kept g3 h.dj h.zv, g1.z, fun j hj hf => ?_, g1.fl, fun j hj hf => ?_, h.o1, fun j hj => ?_, hp_kept h.bx g3 h.n2, h.n1, fun hf => ?_, h.nb, h.bd, ?_⟩, g3⟩
  · rcases g2 j hf with e | e
    · exact h.zv j hj e
    · have := hlt j hj
      omega
  · rcases g2 j hf with e | e
    · exact h.dj j hj e
    · have := h.s.fl j hj
      omega
  · rcases g2 j hj with e | e
    · exact h.o2 j e
    · have := h.be.size
      omega
  · rcases g2 _ hf with e | e
    · exact h.n2 e
    · omega
  · exact h.be.trans (g3.below h.be.size (fun j hj hf => by have := h.o2 j hf; omega))

/-- The document's store is laid into its box. -/
theorem pp_lay {w : World} {bw p1 p2 : Nat} {x : Sp} {v : Value} {m : Bool} {l : List Pl} {N : Nat} {F1 F2 : Nat → Prop} {v1 : Value} {W : World} (h : Q2 w bw p1 p2 x v m l N F1 F2 v1 W) (hko : x.other.size ≤ 50000) (hkk : x.key.size ≤ 50000) :
    Pp w bw p1 p2 v1 (stepL x l m).2 (stepL x l m).1 (N + 201) F1 F2 ((W.setCell ⟨bw, 0, none⟩ v1).setCell ⟨bw, 1, none⟩ (.bool (stepL x l m).2)) := by
  have K : Kept (fun k => k = bw) W ((W.setCell ⟨bw, 0, none⟩ v1).setCell ⟨bw, 1, none⟩ (.bool (stepL x l m).2)) := ((Kept.refl (fun k => k = bw) W).setCell (p := ⟨bw, 0, none⟩) (fun _ => rfl) _).setCell (p := ⟨bw, 1, none⟩) (fun _ => rfl) _
  refine ⟨h.s.kept K (fun j hj e => h.n1 (e ▸ hj)) (fun j hj e => by subst e; exact rl_apart h.s.r hj h.bx (by simp)), h.z.kept K (fun j hj e => h.n2 (e ▸ hj)), h.zv, fun j hj => Nat.lt_of_lt_of_le (h.zl j hj) K.size, h.dj, h.o1, h.o2, set2 h.bx _ _, h.n1, h.n2, h.nb, step_bd h.bd hkk hko, ?_⟩
  exact h.be.trans (K.below h.be.size (fun j hj e => by have := h.nb; omega))

end Go.Proofs.Ythjggbcppgbdoaa
