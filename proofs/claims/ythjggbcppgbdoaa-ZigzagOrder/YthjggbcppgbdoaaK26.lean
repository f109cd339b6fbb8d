import Derived.Test.YthjggbcppgbdoaaK25
namespace Go.Proofs.Ythjggbcppgbdoaa
open Go.RowKit

theorem Try.inf9 : (Try.prog.info? 9).map (fun i => (i.zero, i.size, i.bytes)) = some (some (.string ⟨#[]⟩), 1, 16) := by kernel_rfl
theorem Try.inf3 : (Try.prog.info? 3).map (fun i => (i.zero, i.size, i.bytes)) = some (some (.int .i64 0), 1, 8) := by kernel_rfl

/-- The keys and the numbers of a row under way, in their boxes. -/
structure PB (W : World) (b : Nat) (ka va : Value) (T : List (ByteArray × Int)) : Prop where
  k : W.heap[b]? = some (.cells #[ka] 65 (0, 0))
  v : W.heap[b + 1]? = some (.cells #[va] 66 (0, 0))
  kr : W.ownsRow (b + 2) 9 1 ka T.length (T.map (fun e => .string e.1))
  vr : W.ownsRow (b + 2) 3 1 va T.length (T.map (fun e => .int .i64 e.2))
  sz : b + 2 ≤ W.heap.size

theorem PB.below {W W' : World} {b : Nat} {ka va : Value} {T : List (ByteArray × Int)} (h : PB W b ka va T) (hb : Below W.heap.size W W') : PB W' b ka va T := by
  have K := Kept.ofBelow hb
  exact ⟨hp_below h.k hb (hp_lt h.k), hp_below h.v hb (hp_lt h.v), ownsRow_kept h.kr K (fun _ _ e => e), ownsRow_kept h.vr K (fun _ _ e => e), Nat.le_trans h.sz hb.size⟩

theorem rf_one {w : World} {u : Value} {e : TypeId} (h1 : u.oneCell' = true) : Rf (w.alloc (.cells #[u] e)) 1 (.slice (some ⟨w.heap.size, 0, none⟩) 1 1) 1 [u] := by
  refine ⟨rfl, fun x hu => by simp at hu; subst hu; exact h1, .inr ⟨_, _, rfl, Nat.le_refl _, by unfold maxLen; omega, fun j x hu => ?_⟩⟩
  rw [add_lit]
  have hj : j = 0 := by
    rcases Nat.lt_or_ge j 1 with h | h
    · omega
    · rw [List.getElem?_eq_none (by simpa using h)] at hu; cases hu
  subst hj
  simp at hu
  subst hu
  exact cells1 (hp_new w _)

/-- Behind the closure of pairs. -/
def PrP (w : World) (b : Nat) (T : List (ByteArray × Int)) (k : ByteArray) (x : Int) : Ending → World → Prop := fun e w' => e = .returned (.bool true) ∧ (∃ ka va, PB w' b ka va (T ++ [(k, x)])) ∧ Kept (fun j => b ≤ j) w w'

theorem grown_kept {w w' : World} {o : Option Nat} {b : Nat} (h : w.grownBy w' o) (ho : ∀ j, o = some j → b ≤ j) : Kept (fun j => b ≤ j) w w' := (Kept.refl _ w).grown h (fun k _ e => ho k e)

theorem owns_ge {w : World} {B : Nat} {e : TypeId} {s : Nat} {v : Value} {n : Nat} {xs : List Value} (h : w.ownsRow B e s v n xs) : ∀ j, v.ownBlock = some j → B ≤ j := by
  intro j hj
  rcases h.2 with ⟨rfl, _⟩ | ⟨g, cap, cur, rfl, hb, hg, _⟩
  · simp [Value.ownBlock] at hj
  · simp [Value.ownBlock] at hj
    subst hj
    exact hb

/-- The keys' row has grown. -/
theorem pb_key {W W1 : World} {b : Nat} {ka va ka' : Value} {T : List (ByteArray × Int)} {k : ByteArray} (h : PB W b ka va T) (ho : W1.ownsRow (b + 2) 9 1 ka' (T.length + 1) (T.map (fun e => .string e.1) ++ [.string k])) (hg : (W.alloc (.cells #[.string k] 9)).grownBy W1 ka.ownBlock) :
    (W1.setCell ⟨b, 0, none⟩ ka').heap[b]? = some (.cells #[ka'] 65 (0, 0)) ∧ (W1.setCell ⟨b, 0, none⟩ ka').heap[b + 1]? = some (.cells #[va] 66 (0, 0)) ∧ (W1.setCell ⟨b, 0, none⟩ ka').ownsRow (b + 2) 9 1 ka' (T.length + 1) (T.map (fun e => .string e.1) ++ [.string k]) ∧ (W1.setCell ⟨b, 0, none⟩ ka').ownsRow (b + 2) 3 1 va T.length (T.map (fun e => .int .i64 e.2)) ∧ b + 2 ≤ (W1.setCell ⟨b, 0, none⟩ ka').heap.size ∧ Kept (fun j => b ≤ j) W (W1.setCell ⟨b, 0, none⟩ ka') ∧ W1.heap[b]? = some (.cells #[ka] 65 (0, 0)) := by
  have hk1 : Kept (fun j => ka.ownBlock = some j) W W1 := ((Kept.refl _ W).alloc _).grown hg (fun k _ e => e)
  have nk : ¬ ka.ownBlock = some b := fun e => by have := owns_ge h.kr _ e; omega
  have nv : ¬ ka.ownBlock = some (b + 1) := fun e => by have := owns_ge h.kr _ e; omega
  have a1 := hp_kept h.k hk1 nk
  have a2 := hp_kept h.v hk1 nv
  have a3 : W1.ownsRow (b + 2) 3 1 va T.length (T.map (fun e => .int .i64 e.2)) := ownsRow_kept h.vr hk1 (fun j hj e => by
    obtain ⟨c1, q1⟩ := owns_block h.vr j hj
    obtain ⟨c2, q2⟩ := owns_block h.kr j e
    rw [q1] at q2
    cases q2)
  have K : Kept (fun j => j = b) W1 (W1.setCell ⟨b, 0, none⟩ ka') := (Kept.refl (fun j => j = b) W1).setCell (p := ⟨b, 0, none⟩) (fun _ => rfl) _
  refine ⟨set_block (i := 0) a1 _, hp_kept a2 K (by omega), ownsRow_kept ho K (fun j hj e => by have := owns_ge ho _ hj; omega), ownsRow_kept a3 K (fun j hj e => by have := owns_ge a3 _ hj; omega), Nat.le_trans h.sz (Nat.le_trans hk1.size K.size), ?_, a1⟩
  exact (hk1.mono (fun i _ e => by have := owns_ge h.kr _ e; omega)).trans K (fun i _ e => by omega)

/-- The numbers' row has grown too. -/
theorem pb_val {w W W3 : World} {b : Nat} {ka' va va' : Value} {T : List (ByteArray × Int)} {k : ByteArray} {x : Int} (hk : W.heap[b]? = some (.cells #[ka'] 65 (0, 0))) (hv : W.heap[b + 1]? = some (.cells #[va] 66 (0, 0))) (kr : W.ownsRow (b + 2) 9 1 ka' (T.length + 1) (T.map (fun e => .string e.1) ++ [.string k])) (vr : W.ownsRow (b + 2) 3 1 va T.length (T.map (fun e => .int .i64 e.2))) (sz : b + 2 ≤ W.heap.size) (hK : Kept (fun j => b ≤ j) w W)
    (ho : W3.ownsRow (b + 2) 3 1 va' (T.length + 1) (T.map (fun e => .int .i64 e.2) ++ [.int .i64 x])) (hg : (W.alloc (.cells #[.int .i64 x] 3)).grownBy W3 va.ownBlock) :
    PB (W3.setCell ⟨b + 1, 0, none⟩ va') b ka' va' (T ++ [(k, x)]) ∧ Kept (fun j => b ≤ j) w (W3.setCell ⟨b + 1, 0, none⟩ va') ∧ W3.heap[b]? = some (.cells #[ka'] 65 (0, 0)) ∧ W3.heap[b + 1]? = some (.cells #[va] 66 (0, 0)) := by
  have hk1 : Kept (fun j => va.ownBlock = some j) W W3 := ((Kept.refl _ W).alloc _).grown hg (fun k _ e => e)
  have nk : ¬ va.ownBlock = some b := fun e => by have := owns_ge vr _ e; omega
  have nv : ¬ va.ownBlock = some (b + 1) := fun e => by have := owns_ge vr _ e; omega
  have a1 := hp_kept hk hk1 nk
  have a2 := hp_kept hv hk1 nv
  have a3 : W3.ownsRow (b + 2) 9 1 ka' (T.length + 1) (T.map (fun e => .string e.1) ++ [.string k]) := ownsRow_kept kr hk1 (fun j hj e => by
    obtain ⟨c1, q1⟩ := owns_block kr j hj
    obtain ⟨c2, q2⟩ := owns_block vr j e
    rw [q1] at q2
    cases q2)
  have K : Kept (fun j => j = b + 1) W3 (W3.setCell ⟨b + 1, 0, none⟩ va') := (Kept.refl (fun j => j = b + 1) W3).setCell (p := ⟨b + 1, 0, none⟩) (fun _ => rfl) _
  have e1 : (T ++ [(k, x)]).length = T.length + 1 := by simp
  refine ⟨⟨hp_kept a1 K (by omega), set_block (i := 0) a2 _, ?_, ?_, Nat.le_trans sz (Nat.le_trans hk1.size K.size)⟩, ?_, a1, a2⟩
  · rw [e1, List.map_append]
    exact ownsRow_kept a3 K (fun j hj e => by have := owns_ge a3 _ hj; omega)
  · rw [e1, List.map_append]
    exact ownsRow_kept ho K (fun j hj e => by have := owns_ge ho _ hj; omega)
  · exact (hK.trans hk1 (fun i _ e => by have := owns_ge vr _ e; omega)).trans K (fun i _ e => by omega)

set_option maxRecDepth 100000 in
set_option maxHeartbeats 4000000 in
theorem pr62 (b : Nat) (ka va : Value) (T : List (ByteArray × Int)) (k : ByteArray) (x : Int) (w : World) (h : PB w b ka va T) (hn : T.length < 602) :
    Calls Try.prog 62 #[.string k, .int .i64 x, .pointer (some ⟨b, 0, none⟩), .pointer (some ⟨b + 1, 0, none⟩)] w (PrP w b T k x) := by
  obtain ⟨ao1, cap1, e1⟩ := own_shape h.kr
  obtain ⟨ao2, cap2, e2⟩ := own_shape h.vr
  have H := hid h
  have c0 := cells1 h.k
  have fk : ∀ j, w.frozen? ⟨b, j, none⟩ = false := fun j => free_of_block h.k
  have OW := hid (show (w.alloc (.cells #[.string k] 9)).ownsRow (b + 2) 9 1 ka T.length (T.map (fun e => .string e.1)) from ownsRow_kept h.kr ((Kept.refl (fun _ => False) w).alloc _) (fun _ _ e => e))
  have SZ := hid (show b + 2 ≤ (w.alloc (.cells #[.string k] 9)).heap.size from by have := h.sz; simp; omega)
  have KB := hid (fun (W1 : World) (ka' : Value) (ho : W1.ownsRow (b + 2) 9 1 ka' (T.length + 1) (T.map (fun e => .string e.1) ++ [.string k])) hg => pb_key (k := k) h ho hg)
  have hlen : (T.length : Int) + 1 ≤ 602 := by omega
  have FIN := hid (show ∀ W2 ka' va', PB W2 b ka' va' (T ++ [(k, x)]) ∧ Kept (fun j => b ≤ j) w W2 → PrP w b T k x (.returned (.bool true)) W2 from fun W2 ka' va' hp => ⟨rfl, ⟨_, _, hp.1⟩, hp.2⟩)
  have VB := hid (fun (W W3 : World) (ka' va va' : Value) hk hv kr vr sz hK ho hg => pb_val (w := w) (W := W) (W3 := W3) (b := b) (ka' := ka') (va := va) (va' := va') (T := T) (k := k) (x := x) hk hv kr vr sz hK ho hg)
  generalize hP : PrP w b T k x = PP at FIN ⊢
  generalize hL : T.length = N at *
  clear hP h
  subst e1 e2
  go_enter Try.func62, Try.ntmps62
  go_upto_region 2 with (
    at_builtin
    refine wpList_append_rf _ rfl (.tmp 7) (.tmp 9) 65 9 _ 1 16 rfl Try.underlying65 Try.inf9 rfl (by omega) (b + 2) _ N _ rfl OW.out (.slice (some ⟨w.heap.size, 0, none⟩) 1 1) 1 [.string k] rfl (rf_one rfl) (by omega) (by unfold maxLen; omega) SZ.out ?_
    intro a1 q1 w1 ho1 hg1 hat1
    have Z1 := hid (KB.out _ _ ho1.out hg1.out)
    have d0 := cells1 Z1.out.2.2.2.2.2.2
    have ff : ∀ j, w1.frozen? ⟨b, j, none⟩ = false := fun j => free_of_block Z1.out.2.2.2.2.2.2
    clear ho1 hg1 hat1)
  have Z2 := Z1
  clear Z1 d0 ff KB OW SZ H c0 fk
  generalize w1.setCell ⟨b, 0, none⟩ (.slice a1 (N + 1) q1) = W2 at Z2 ⊢
  obtain ⟨z1, z2, z3, z4, z5, z6, -⟩ := Z2.out
  have Y1 := hid z1
  have Y2 := hid z2
  have Y3 := hid z3
  have Y4 := hid z4
  have Y5 := hid z5
  have Y6 := hid z6
  clear z1 z2 z3 z4 z5 z6 Z2
  have c0 := cells1 Y2.out
  have OW := hid (show (W2.alloc (.cells #[.int .i64 x] 3)).ownsRow (b + 2) 3 1 (.slice ao2 N cap2) N (T.map (fun e => .int .i64 e.2)) from ownsRow_kept Y4.out ((Kept.refl (fun _ => False) W2).alloc _) (fun _ _ e => e))
  have SZ := hid (show b + 2 ≤ (W2.alloc (.cells #[.int .i64 x] 3)).heap.size from by have := Y5.out; simp; omega)
  have KB := hid (fun (W3 : World) (va' : Value) ho hg => VB.out W2 W3 _ _ va' Y1.out Y2.out Y3.out Y4.out Y5.out Y6.out ho hg)
  clear VB
  go_upto_region 3 with (
    at_builtin
    refine wpList_append_rf _ rfl (.tmp 11) (.tmp 13) 66 3 _ 1 8 rfl Try.underlying66 Try.inf3 rfl (by omega) (b + 2) _ N _ rfl OW.out (.slice (some ⟨W2.heap.size, 0, none⟩) 1 1) 1 [.int .i64 x] rfl (rf_one rfl) (by omega) (by unfold maxLen; omega) SZ.out ?_
    intro a2 q2 w3 ho3 hg3 hat3
    have Z3 := hid (KB.out _ _ ho3.out hg3.out)
    have d0 := cells1 Z3.out.2.2.2
    have ff : ∀ j, w3.frozen? ⟨b + 1, j, none⟩ = false := fun j => free_of_block Z3.out.2.2.2
    clear ho3 hg3 hat3)
  have Z4 := hid (And.intro Z3.out.1 Z3.out.2.1)
  clear Z3 d0 ff KB OW SZ c0
  generalize w3.setCell ⟨b + 1, 0, none⟩ (.slice a2 (N + 1) q2) = W4 at Z4 ⊢
  have c0 := cells1 Z4.out.1.k
  have hd : decide ((N : Int) + 1 ≤ 602) = true := by simp; omega
  clear hlen hn
  go_wp2_with fail
  exact FIN.out _ _ _ Z4.out

end Go.Proofs.Ythjggbcppgbdoaa

namespace Go.Proofs.Ythjggbcppgbdoaa
open Go.RowKit

/-- All that is seen between two ends. -/
def rl (h : Bool) (frm to : ByteArray) (V : List Pl) : List Pl := V.filter (fitP h frm to)
/-- Keys and numbers. -/
def kx (h : Bool) (l : List Pl) : List (ByteArray × Int) := l.map (fun e => (e.1, (see h e.2).1))

theorem rl_nil {h : Bool} {frm to : ByteArray} {V : List Pl} (e : leastP h frm to V = none) : rl h frm to V = [] := by
  unfold rl
  rw [List.filter_eq_nil_iff]
  exact List.find?_eq_none.1 e

theorem rl_cons {h : Bool} {frm to : ByteArray} {V : List Pl} {e : Pl} (hs : V.Pairwise (fun a b => kl a.1 b.1 = true)) (he : leastP h frm to V = some e) : rl h frm to V = e :: rl h (bhd e.1) to V := by
  have hp := List.find?_some he
  have hp' := hp
  unfold fitP at hp'
  simp only [Bool.and_eq_true, Bool.not_eq_true'] at hp'
  obtain ⟨V1, V2, eV, hV1⟩ : ∃ V1 V2, V = V1 ++ e :: V2 ∧ ∀ x ∈ V1, fitP h frm to x = false := by
    obtain ⟨-, V1, V2, rfl, h1⟩ := List.find?_eq_some_iff_append.1 he
    exact ⟨V1, V2, rfl, fun x hx => by simpa using h1 x hx⟩
  subst eV
  have s1 : ∀ x ∈ V1, kl x.1 e.1 = true := fun x hx => (List.pairwise_append.1 hs).2.2 x hx e (by simp)
  have s2 : ∀ x ∈ V2, kl e.1 x.1 = true := (List.pairwise_cons.1 (List.pairwise_append.1 hs).2.1).1
  unfold rl
  have f1 : V1.filter (fitP h frm to) = [] := List.filter_eq_nil_iff.2 (fun x hx => by rw [hV1 x hx]; simp)
  have f2 : V1.filter (fitP h (bhd e.1) to) = [] := List.filter_eq_nil_iff.2 (fun x hx => by
    unfold fitP
    rw [kl_behind, kl_asymm (s1 x hx)]
    simp)
  have f3 : fitP h (bhd e.1) to e = false := by
    unfold fitP
    rw [kl_behind, kl_irrefl]
    simp
  have f4 : V2.filter (fitP h frm to) = V2.filter (fitP h (bhd e.1) to) := by
    refine List.filter_congr (fun x hx => ?_)
    unfold fitP
    rw [kl_behind, s2 x hx]
    have : kl x.1 frm = false := by
      cases hk : kl x.1 frm
      · rfl
      · have := kl_trans (s2 x hx) hk
        rw [hp'.1.1] at this
        cases this
    rw [this]
    simp
  rw [List.filter_append, List.filter_append, f1, f2, List.filter_cons, List.filter_cons, hp, f3, f4]
  simp

theorem e62 : ∀ args w, (callFunc 62 args).run Try.prog w = .ok (.enter 62 args) w := enters_of Try.func62 (by kernel_rfl) rfl

/-- What pairs gathers. -/
def PrJ (w : World) (b : Nat) (T : List (ByteArray × Int)) (W : World) : Prop := (∃ ka va, PB W b ka va T) ∧ Kept (fun j => b ≤ j) w W

theorem kx_len (h : Bool) (frm to : ByteArray) (V : List Pl) : (kx h (rl h frm to V)).length ≤ V.length := by
  unfold kx rl
  rw [List.length_map]
  exact List.length_filter_le _ _

/-- Either search, told alike. -/
structure Srch (FN : Nat) (lb : Array Value) (h : Bool) (to : ByteArray) (V : List Pl) (w : World) (b g2 : Nat) : Prop where
  bx : ∀ {W}, Kept (fun j => b ≤ j) w W → W.heap[g2]? = some (.cells #[.func (.func FN) #[] lb] 95 (0, 0))
  fn : ∀ {W frm}, Kept (fun j => b ≤ j) w W → frm.size ≤ 281474976710001 → Calls Try.prog FN (#[.string frm] ++ lb) W fun x w' => x = .returned (.tuple #[.string (leastW h frm to V).1, .int .i64 (leastW h frm to V).2.1, .bool (leastW h frm to V).2.2]) ∧ Below W.heap.size W w'

theorem pr_loop {FN : Nat} {lb : Array Value} {h : Bool} {frm0 to : ByteArray} {V : List Pl} {w : World} {b g1 g2 : Nat} {ka va : Value} (S : Srch FN lb h to V w b g2) (eF : ∀ args w, (callFunc FN args).run Try.prog w = .ok (.enter FN args) w) (hso : V.Pairwise (fun a b => kl a.1 b.1 = true)) (hl : V.length ≤ 602) (hks : ∀ e ∈ V, e.1.size ≤ 281474976710000) (hf : frm0.size ≤ 281474976710001) (hp : PB w b ka va []) (hg : Bx w g1 frm0) :
    Calls Try.prog 75 #[.func (.func 62) #[] #[.pointer (some ⟨b, 0, none⟩), .pointer (some ⟨b + 1, 0, none⟩)], .pointer (some ⟨g1, 0, none⟩), .pointer (some ⟨g2, 0, none⟩)] w fun y w' => y = .returned (.tuple #[]) ∧ PrJ w b (kx h (rl h frm0 to V)) w' := by
  have htl := kx_len h frm0 to V
  have B : BodyS FN lb 62 #[.pointer (some ⟨b, 0, none⟩), .pointer (some ⟨b + 1, 0, none⟩)] g2
      (fun mm frm W => frm.size ≤ 281474976710001 ∧ ∃ ka va T, PB W b ka va T ∧ T ++ kx h (rl h frm to V) = kx h (rl h frm0 to V) ∧ mm = (rl h frm to V).length ∧ Kept (fun j => b ≤ j) w W)
      (fun mm k x W => ∃ frm e ka va T, leastP h frm to V = some e ∧ k = e.1 ∧ x = (see h e.2).1 ∧ PB W b ka va T ∧ T ++ kx h (rl h frm to V) = kx h (rl h frm0 to V) ∧ mm = (rl h frm to V).length ∧ Kept (fun j => b ≤ j) w W)
      (PrJ w b (kx h (rl h frm0 to V))) := by
    refine ⟨?_, ?_, ?_, ?_⟩
    · rintro mm frm W ⟨-, ka, va, T, -, -, -, hk⟩
      exact S.bx hk
    · rintro mm frm W ⟨hsz, ka, va, T, hb, ht, rfl, hk⟩
      have L := S.fn (frm := frm) hk hsz
      cases hf : leastP h frm to V with
      | none =>
        rw [leastW_none hf] at L
        refine L.mono ?_
        rintro y w' ⟨rfl, hbl⟩
        rw [rl_nil hf] at ht
        simp only [kx, List.map_nil, List.append_nil] at ht
        refine .inl ⟨_, _, rfl, ⟨ka, va, ?_⟩, hk.trans (Kept.ofBelow hbl) (fun _ _ e => e.elim)⟩
        unfold kx
        rw [← ht]
        exact hb.below hbl
      | some e =>
        rw [leastW_some hf] at L
        refine L.mono ?_
        rintro y w' ⟨rfl, hbl⟩
        exact .inr ⟨_, _, rfl, frm, e, ka, va, T, hf, rfl, rfl, hb.below hbl, ht, rfl, hk.trans (Kept.ofBelow hbl) (fun _ _ e => e.elim)⟩
    · rintro mm k x W ⟨frm, e, ka, va, T, hf, rfl, -⟩
      exact hks e (List.mem_of_find?_eq_some hf)
    · rintro mm k x W ⟨frm, e, ka, va, T, hf, rfl, rfl, hb, ht, rfl, hk⟩
      have hc := rl_cons hso hf
      have htn : T.length < 602 := by
        have := congrArg List.length ht
        rw [hc] at this
        simp only [List.length_append, kx, List.map_cons, List.length_cons, List.length_map] at this htl
        omega
      refine (pr62 b ka va T e.1 _ W hb htn).mono ?_
      rintro y w' ⟨rfl, ⟨ka', va', hb'⟩, hk'⟩
      refine .inr ⟨rfl, (rl h (bhd e.1) to V).length, by rw [hc]; simp, by rw [bhd_size]; have := hks e (List.mem_of_find?_eq_some hf); omega, ka', va', _, hb', ?_, rfl, hk.trans hk' (fun _ _ q => q)⟩
      rw [← ht, hc]
      simp [kx]
  exact iterS B eF e62 _ frm0 w ⟨hf, ka, va, [], hp, by simp, rfl, Kept.refl _ _⟩ hg

/-- What pairs answers. -/
def PaP (w : World) (T : List (ByteArray × Int)) : Ending → World → Prop := fun x w' => ∃ ka va, x = .returned (.tuple #[ka, va]) ∧ Rf w' 1 ka T.length (T.map (fun e => .string e.1)) ∧ Rf w' 1 va T.length (T.map (fun e => .int .i64 e.2)) ∧ (∀ j, ka.ownBlock = some j ∨ va.ownBlock = some j → w.heap.size ≤ j ∧ j < w'.heap.size) ∧ Below w.heap.size w w'

theorem owns_lt {w : World} {B : Nat} {e : TypeId} {s : Nat} {v : Value} {n : Nat} {xs : List Value} (h : w.ownsRow B e s v n xs) : ∀ j, v.ownBlock = some j → j < w.heap.size := fun j hj => by
  obtain ⟨cs, hb⟩ := owns_block h j hj
  exact hp_lt hb

set_option maxRecDepth 100000 in
set_option maxHeartbeats 4000000 in
theorem pairs_of (g1 g2 : Nat) (T : List (ByteArray × Int)) (w : World)
    (hL : ∀ W, Below w.heap.size w W → PB W w.heap.size (.slice none 0 0) (.slice none 0 0) [] → Calls Try.prog 75 #[.func (.func 62) #[] #[.pointer (some ⟨w.heap.size, 0, none⟩), .pointer (some ⟨w.heap.size + 1, 0, none⟩)], .pointer (some ⟨g1, 0, none⟩), .pointer (some ⟨g2, 0, none⟩)] W fun y w' => y = .returned (.tuple #[]) ∧ PrJ W w.heap.size T w') :
    Calls Try.prog 29 #[itS g1 g2] w (PaP w T) := by
  have hmf : ∀ (fn : Fn) (first cap : Array Value) (w : World), (Instr.makeFunc fn first cap).run Try.prog w = .ok (.func fn first cap) w := fun _ _ _ _ => rfl
  obtain ⟨q1, q2, qb⟩ := two w (.cells #[.slice none 0 0] 65) (.cells #[.slice none 0 0] 66)
  have L2 := hid (hL _ qb ⟨q1, q2, World.ownsRow_nil _ _ _ _, World.ownsRow_nil _ _ _ _, by simp⟩)
  have QB := hid qb
  have FIN := hid (show ∀ W ka va, PB W w.heap.size ka va T → Below w.heap.size w W → ∀ W', Below W.heap.size W W' → PaP w T (.returned (.tuple #[ka, va])) W' from fun W ka va hp hb W' hb' => by
    refine ⟨ka, va, rfl, ?_, ?_, fun j hj => ?_, below_on hb hb'⟩
    · exact (rf_of_owns hp.kr (fun u hu => by simp at hu; obtain ⟨a, b, c, rfl⟩ := hu; rfl)).below hb'
    · exact (rf_of_owns hp.vr (fun u hu => by simp at hu; obtain ⟨a, b, c, rfl⟩ := hu; rfl)).below hb'
    · have := hb'.size
      rcases hj with hj | hj
      · have a := owns_ge hp.kr j hj
        have b := owns_lt hp.kr j hj
        omega
      · have a := owns_ge hp.vr j hj
        have b := owns_lt hp.vr j hj
        omega)
  generalize hP : PaP w T = PP at FIN ⊢
  clear hL q1 q2 qb hP
  go_enter Try.func29, Try.ntmps29
  go_upto_region 4 with (
    go_at_call 75
    refine L2.out.mono ?_
    rintro e w2 ⟨rfl, ⟨ka, va, hp⟩, hk⟩
    have BB := hid (show Below w.heap.size w w2 from QB.out.trans (hk.below QB.out.size (fun j hj e => by omega)))
    have HP := hid hp
    obtain ⟨ao1, cap1, e1⟩ := own_shape hp.kr
    obtain ⟨ao2, cap2, e2⟩ := own_shape hp.vr
    generalize T.length = N at e1 e2
    subst e1 e2
    have c0 := cells1 HP.out.k
    have c1 := cells1 HP.out.v
    clear hp hk L2)
  go_quiet (fail)
  go_wp2
  exact FIN.out _ _ _ HP.out BB.out _ (blw_drewN (Below.refl _ _))

end Go.Proofs.Ythjggbcppgbdoaa

namespace Go.Proofs.Ythjggbcppgbdoaa
open Go.RowKit

theorem pairs_range {w : World} {p : Nat} {V : List Pl} {m : Bool} {F : Nat → Prop} {g1 g2 gp ge : Nat} {frm to : ByteArray} (hz : ZV w p V m F) (hF : ∀ j, F j → j < w.heap.size) (hs : RgB w g1 g2 gp ge (some ⟨p, 0, none⟩) frm to) (hl : V.length ≤ 602) (hks : ∀ e ∈ V, e.1.size ≤ 281474976710000) (hf : frm.size ≤ 281474976710001) (ht : to.size ≤ 281474976710000) :
    Calls Try.prog 29 #[itS g1 g2] w (PaP w (kx false (rl false frm to V))) := by
  refine pairs_of g1 g2 _ w (fun W hb hp => ?_)
  refine pr_loop (FN := 54) (lb := #[.pointer (some ⟨gp, 0, none⟩), .pointer (some ⟨ge, 0, none⟩)]) ⟨?_, ?_⟩ e54 hz.sorted hl hks hf hp (hp_below hs.f hb (hp_lt hs.f))
  · intro W' hk
    have := hp_lt hs.s
    exact hp_kept (hp_below hs.s hb this) hk (by omega)
  · intro W' frm' hk hsz
    have a1 := hp_lt hs.p
    have a2 := hp_lt hs.e
    have hzW := (hz.below hb).kept hk (fun j hj e => by have := hF j hj; omega)
    exact find54 (some ⟨p, 0, none⟩) frm' to gp ge _ _ _ W' (hp_kept (hp_below hs.p hb a1) hk (by omega)) (hp_kept (hp_below hs.e hb a2) hk (by omega)) (vleast49 p frm' to V m F W' hzW (by omega) (by omega))

theorem pairs_snap {w : World} {p : Nat} {V : List Pl} {F : Nat → Prop} {g1 g2 gp : Nat} {above : ByteArray} (hz : ZV w p V true F) (hF : ∀ j, F j → j < w.heap.size) (hs : SnB w g1 g2 gp (some ⟨p, 0, none⟩) (bhd above)) (hl : V.length ≤ 602) (hks : ∀ e ∈ V, e.1.size ≤ 281474976710000) (hf : above.size ≤ 281474976710000) :
    Calls Try.prog 29 #[itS g1 g2] w (PaP w (kx true (rl true (bhd above) ⟨#[]⟩ V))) := by
  refine pairs_of g1 g2 _ w (fun W hb hp => ?_)
  refine pr_loop (FN := 57) (lb := #[.pointer (some ⟨gp, 0, none⟩)]) ⟨?_, ?_⟩ e57 hz.sorted hl hks (by rw [bhd_size]; omega) hp (hp_below hs.f hb (hp_lt hs.f))
  · intro W' hk
    have := hp_lt hs.s
    exact hp_kept (hp_below hs.s hb this) hk (by omega)
  · intro W' frm' hk hsz
    have a1 := hp_lt hs.p
    have hzW := (hz.below hb).kept hk (fun j hj e => by have := hF j hj; omega)
    exact find57 (some ⟨p, 0, none⟩) frm' gp _ _ _ W' (hp_kept (hp_below hs.p hb a1) hk (by omega)) (vmarked p V true F W' hzW) (vleast58 p frm' ⟨#[]⟩ V true F W' hzW (by omega) (by decide))

theorem pairs_snap_no {w : World} {p : Nat} {V : List Pl} {F : Nat → Prop} {g1 g2 gp : Nat} {above : ByteArray} (hz : ZV w p V false F) (hF : ∀ j, F j → j < w.heap.size) (hs : SnB w g1 g2 gp (some ⟨p, 0, none⟩) (bhd above)) (hf : above.size ≤ 281474976710000) :
    Calls Try.prog 29 #[itS g1 g2] w (PaP w []) := by
  refine pairs_of g1 g2 _ w (fun W hb hp => ?_)
  refine pr_loop (FN := 57) (lb := #[.pointer (some ⟨gp, 0, none⟩)]) (h := true) (to := ⟨#[]⟩) (V := []) (frm0 := bhd above) ⟨?_, ?_⟩ e57 List.Pairwise.nil (by simp) (fun e he => (by cases he)) (by rw [bhd_size]; omega) hp (hp_below hs.f hb (hp_lt hs.f))
  · intro W' hk
    have := hp_lt hs.s
    exact hp_kept (hp_below hs.s hb this) hk (by omega)
  · intro W' frm' hk hsz
    have a1 := hp_lt hs.p
    have hzW := (hz.below hb).kept hk (fun j hj e => by have := hF j hj; omega)
    exact find57_no (some ⟨p, 0, none⟩) frm' gp W' (hp_kept (hp_below hs.p hb a1) hk (by omega)) (vmarked p V false F W' hzW)

set_option maxRecDepth 100000 in
set_option maxHeartbeats 4000000 in
theorem same_any (T : List (ByteArray × Int)) (ka va kb vb : Value) (w : World) (h1 : Rf w 1 ka T.length (T.map (fun e => .string e.1))) (h2 : Rf w 1 va T.length (T.map (fun e => .int .i64 e.2))) (h3 : Rf w 1 kb T.length (T.map (fun e => .string e.1))) (h4 : Rf w 1 vb T.length (T.map (fun e => .int .i64 e.2))) (hl : T.length ≤ 1000000) :
    Calls Try.prog 30 #[ka, va, kb, vb] w fun x w' => x = .returned (.bool true) ∧ Below w.heap.size w w' := by
  obtain ⟨a1, c1, e1, -, -⟩ := h1.shape
  obtain ⟨a2, c2, e2, -, -⟩ := h2.shape
  obtain ⟨a3, c3, e3, -, -⟩ := h3.shape
  obtain ⟨a4, c4, e4, -, -⟩ := h4.shape
  have H1 := hid h1
  have H2 := hid h2
  have H3 := hid h3
  have H4 := hid h4
  subst e1 e2 e3 e4
  clear h1 h2 h3 h4
  have hnn : ((T.length : Int) != T.length) = false := by simp
  generalize hP : (fun (x : Ending) (w' : World) => x = .returned (.bool true) ∧ Below w.heap.size w w') = PP
  have FIN := hid (show ∀ w', Below w.heap.size w w' → PP (.returned (.bool true)) w' from fun w' hb => hP ▸ ⟨rfl, hb⟩)
  clear hP
  go_enter Try.func30, Try.ntmps30
  go_wp2
  go_loopw [9] (fun i wr => ∃ k : Nat, i = .int .i64 k ∧ k ≤ T.length ∧ Hid (Below w.heap.size w wr)) (fun i _ => T.length - (intOf i).toNat)
  case atStart => exact ⟨0, rfl, Nat.zero_le _, hid (Below.refl _ _)⟩
  case round =>
    obtain ⟨k, rfl, hk, hb⟩ := hrel
    by_cases h1 : k < T.length
    · have h1k : (k : Int) < T.length := by omega
      obtain ⟨g1, o1, q1, e, -, -, z1⟩ := (H1.out.below hb.out).lits (by omega) (by omega)
      injection e with e1 _ e3
      subst e1 e3
      obtain ⟨g2, o2, q2, e, -, -, z2⟩ := (H2.out.below hb.out).lits (by omega) (by omega)
      injection e with e1 _ e3
      subst e1 e3
      obtain ⟨g3, o3, q3, e, -, -, z3⟩ := (H3.out.below hb.out).lits (by omega) (by omega)
      injection e with e1 _ e3
      subst e1 e3
      obtain ⟨g4, o4, q4, e, -, -, z4⟩ := (H4.out.below hb.out).lits (by omega) (by omega)
      injection e with e1 _ e3
      subst e1 e3
      have v1 := z1 k (.string T[k].1) (by simp [h1])
      have v2 := z2 k (.int .i64 T[k].2) (by simp [h1])
      have v3 := z3 k (.string T[k].1) (by simp [h1])
      have v4 := z4 k (.int .i64 T[k].2) (by simp [h1])
      generalize T[k].1 = s at v1 v3
      generalize T[k].2 = n at v2 v4
      have b1 : (s.toList != s.toList) = false := by simp
      have b2 : (n != n) = false := by simp
      have b3 : (s.toList == s.toList) = true := by simp
      have hk1 : k + 1 ≤ 1000000 := by omega
      clear z1 z2 z3 z4 hl FIN H1 H2 H3 H4
      go_wp2_with fail
      go_quiet (fail)
      go_wp2
      go_roundw
      case rel => exact ⟨k + 1, by go_num, by omega, hid (blw_drewN hb.out)⟩
      case measure => simp [intOf]; omega
    · have h1k : (T.length : Int) ≤ k := by omega
      go_wp2_with fail
      exact FIN.out _ hb.out

/-- What a script's write makes of the places. -/
def wrL (x : Sp) (m : Bool) (V : List Pl) : List Pl := if x.kind = 2 then rdelL x.key m V else if x.kind = 1 then rputL x.key x.v V else V

/-- Behind a write. -/
def WrP (p : Nat) (m : Bool) (V : List Pl) (F : Nat → Prop) (w w' : World) : Prop := ∃ F', ZV w' p V m F' ∧ (∀ j, F' j → F j ∨ w.heap.size ≤ j) ∧ (∀ j, F' j → j < w'.heap.size) ∧ Kept F w w'

set_option maxRecDepth 100000 in
set_option maxHeartbeats 4000000 in
theorem write_any (x : Sp) (p : Nat) (V : List Pl) (m : Bool) (F : Nat → Prop) (w : World) (h : ZV w p V m F) (hF : ∀ j, F j → j < w.heap.size) (hl : V.length ≤ 500000) (hk : x.key.size ≤ 281474976710656) :
    Calls Try.prog 28 #[.pointer (some ⟨p, 0, none⟩), x.agg] w fun y w' => y = .returned (.tuple #[]) ∧ WrP p m (wrL x m V) F w w' := by
  have BN := hid (below_new w (.cells x.cells 36))
  obtain ⟨x0, x1, x2, x3, x4, x5⟩ := cells6 (hp_new w (.cells x.cells 36))
  have A1 := hid (vdel p x.key V m F (w.alloc (.cells x.cells 36)) (h.below (below_new _ _)) hl)
  have A2 := hid (vput p x.key x.v V m F (w.alloc (.cells x.cells 36)) (h.below (below_new _ _)) hl hk)
  have NX := hid (show ∀ w1, Kept F (w.alloc (.cells x.cells 36)) w1 → w1.heap[w.heap.size]? = some (.cells x.cells 36 (0, 0)) from fun w1 hk => hp_kept (hp_new w _) hk (fun hf => by have := hF _ hf; omega))
  have FD := hid (show ∀ w1, ZV w1 p (rdelL x.key m V) m F → Kept F (w.alloc (.cells x.cells 36)) w1 → WrP p m (rdelL x.key m V) F w w1 from fun w1 hz hk => ⟨F, hz, fun j hj => .inl hj, fun j hj => Nat.lt_of_lt_of_le (hF j hj) (Nat.le_trans (below_new w _).size hk.size), ((Kept.ofBelow (below_new w _)).mono (fun _ _ e => e.elim)).trans hk (fun _ _ e => e)⟩)
  have FP := hid (show ∀ w1, ZV w1 p (rputL x.key x.v V) m (grw F (w.alloc (.cells x.cells 36)) w1) → Kept F (w.alloc (.cells x.cells 36)) w1 → WrP p m (rputL x.key x.v V) F w w1 from fun w1 hz hk => ⟨_, hz, fun j hj => hj.imp (fun e => e) (fun e => by have := e.1; simp at this; omega), fun j hj => hj.elim (fun e => Nat.lt_of_lt_of_le (hF j e) (Nat.le_trans (below_new w _).size hk.size)) (fun e => e.2), ((Kept.ofBelow (below_new w _)).mono (fun _ _ e => e.elim)).trans hk (fun _ _ e => e)⟩)
  have FN := hid (show WrP p m V F w (w.alloc (.cells x.cells 36)) from ⟨F, h.below (below_new _ _), fun j hj => .inl hj, fun j hj => Nat.lt_of_lt_of_le (hF j hj) (below_new w _).size, (Kept.ofBelow (below_new w _)).mono (fun _ _ e => e.elim)⟩)
  obtain ⟨xk, xv, xn, key, to, oth⟩ := x
  simp only at x0 x1 x2 x3 x4 x5 A1 A2 FD FP NX
  unfold wrL
  clear h hF hl hk
  by_cases h2 : xk = 2
  · subst h2
    simp only [if_true]
    go_enter Try.func28, Try.ntmps28
    go_wp2_with (
      go_at_call 17
      refine A1.out.mono ?_
      rintro e w1 ⟨rfl, hz, hk⟩
      have Z1 := hid (FD.out w1 hz hk)
      obtain ⟨u0, u1, u2, u3, u4, u5⟩ := cells6 (NX.out w1 hk)
      simp only at u0
      clear hz hk)
    go_end0
    exact ⟨rfl, Z1.out⟩
  · by_cases h1 : xk = 1
    · subst h1
      simp only [h2, if_true, if_false]
      clear h2
      go_enter Try.func28, Try.ntmps28
      go_wp2_with (
        go_at_call 16
        refine A2.out.mono ?_
        rintro e w1 ⟨rfl, hz, hk⟩
        have Z1 := hid (FP.out w1 hz hk)
        clear hz hk)
      go_end0
      exact ⟨rfl, Z1.out⟩
    · simp only [h2, h1, if_false]
      have b1 : (xk == 1) = false := by simpa using h1
      have b2 : (xk == 2) = false := by simpa using h2
      clear h1 h2
      go_enter Try.func28, Try.ntmps28
      go_wp2_with fail
      go_end0
      exact ⟨rfl, FN.out⟩

end Go.Proofs.Ythjggbcppgbdoaa

namespace Go.Proofs.Ythjggbcppgbdoaa
open Go.RowKit

/-- What is read of places. -/
def rd (V : List Pl) : List (ByteArray × Int) := (V.filter keepP).map (fun e => (e.1, e.2.copy e.2.r))

theorem keepP_eq (e : Pl) : keepP e = e.2.has e.2.r := rfl
theorem see_read (e : Pl) : see false e.2 = (e.2.copy e.2.r, e.2.has e.2.r) := rfl

abbrev Srt (V : List Pl) : Prop := V.Pairwise (fun a b => kl a.1 b.1 = true)

theorem rd_app (V1 V2 : List Pl) : rd (V1 ++ V2) = rd V1 ++ rd V2 := by simp [rd]
theorem rd_cons (e : Pl) (V : List Pl) : rd (e :: V) = (if keepP e = true then [(e.1, e.2.copy e.2.r)] else []) ++ rd V := by
  unfold rd
  rw [List.filter_cons]
  split <;> simp
theorem rd_keep (V : List Pl) : rd (V.filter keepP) = rd V := by simp [rd]
theorem rd_mark (V : List Pl) : rd (V.map mkE) = rd V := by
  unfold rd
  rw [List.filter_map, List.map_map]
  rfl

theorem rd_mem {V : List Pl} {y : ByteArray × Int} (h : y ∈ rd V) : ∃ e ∈ V, e.1 = y.1 := by
  unfold rd at h
  obtain ⟨e, he, rfl⟩ := List.mem_map.1 h
  exact ⟨e, (List.mem_filter.1 he).1, rfl⟩

/-- The part below a key and the part above it. -/
def lo (k : ByteArray) (R : List (ByteArray × Int)) : List (ByteArray × Int) := R.filter (fun e => kl e.1 k)
def hi (k : ByteArray) (R : List (ByteArray × Int)) : List (ByteArray × Int) := R.filter (fun e => kl k e.1)

theorem lo_below {k : ByteArray} {V : List Pl} (h : ∀ e ∈ V, kl e.1 k = true) : lo k (rd V) = rd V ∧ hi k (rd V) = [] := by
  constructor
  · refine List.filter_eq_self.2 (fun y hy => ?_)
    obtain ⟨e, he, e1⟩ := rd_mem hy
    rw [← e1]; exact h e he
  · refine List.filter_eq_nil_iff.2 (fun y hy => ?_)
    obtain ⟨e, he, e1⟩ := rd_mem hy
    rw [← e1, kl_asymm (h e he)]; simp
theorem lo_above {k : ByteArray} {V : List Pl} (h : ∀ e ∈ V, kl k e.1 = true) : lo k (rd V) = [] ∧ hi k (rd V) = rd V := by
  constructor
  · refine List.filter_eq_nil_iff.2 (fun y hy => ?_)
    obtain ⟨e, he, e1⟩ := rd_mem hy
    rw [← e1, kl_asymm (h e he)]; simp
  · refine List.filter_eq_self.2 (fun y hy => ?_)
    obtain ⟨e, he, e1⟩ := rd_mem hy
    rw [← e1]; exact h e he

theorem lo_app (k : ByteArray) (A B : List (ByteArray × Int)) : lo k (A ++ B) = lo k A ++ lo k B := by simp [lo]
theorem hi_app (k : ByteArray) (A B : List (ByteArray × Int)) : hi k (A ++ B) = hi k A ++ hi k B := by simp [hi]
theorem lo_one (k : ByteArray) (v : Int) (c : Prop) [Decidable c] : lo k (if c then [(k, v)] else []) = [] ∧ hi k (if c then [(k, v)] else []) = [] := by
  split <;> simp [lo, hi, kl_irrefl]

/-- A sorted list of places about a key. -/
theorem about (key : ByteArray) {V : List Pl} (h : Srt V) : (∃ V1 V2 s, V = V1 ++ (key, s) :: V2 ∧ (∀ e ∈ V1, kl e.1 key = true) ∧ (∀ e ∈ V2, kl key e.1 = true)) ∨ (∃ V1 V2, V = V1 ++ V2 ∧ (∀ e ∈ V1, kl e.1 key = true) ∧ (∀ e ∈ V2, kl key e.1 = true)) := by
  by_cases hm : ∃ e ∈ V, e.1 = key
  · obtain ⟨e, he, rfl⟩ := hm
    obtain ⟨V1, V2, e1, h1, h2⟩ := sorted_split h he
    exact .inl ⟨V1, V2, e.2, e1, h1, h2⟩
  · right
    refine ⟨V.filter (fun e => kl e.1 key), V.filter (fun e => kl key e.1), ?_, fun e he => (List.mem_filter.1 he).2, fun e he => (List.mem_filter.1 he).2⟩
    induction V with
    | nil => rfl
    | cons a V ih =>
      have hV := List.pairwise_cons.1 h
      have ih' := ih hV.2 (fun ⟨e, he, hk⟩ => hm ⟨e, by simp [he], hk⟩)
      cases ha : kl a.1 key
      · have hka : kl key a.1 = true := by
          cases hk : kl key a.1
          · exact absurd ⟨a, by simp, kl_tri ha hk⟩ hm
          · rfl
        have e1 : V.filter (fun e => kl e.1 key) = [] := List.filter_eq_nil_iff.2 (fun e he => by
          rw [kl_asymm (kl_trans hka (hV.1 e he))]; simp)
        have e2 : V.filter (fun e => kl key e.1) = V := List.filter_eq_self.2 (fun e he => kl_trans hka (hV.1 e he))
        rw [List.filter_cons, List.filter_cons, ha, hka, e1, e2]
        simp
      · rw [List.filter_cons, List.filter_cons, ha, kl_asymm ha]
        simp only [if_true, Bool.false_eq_true, if_false, List.cons_append]
        rw [← ih']

theorem rd_put {key : ByteArray} {v : Int} {V : List Pl} (h : Srt V) : rd (rputL key v V) = lo key (rd V) ++ (key, v) :: hi key (rd V) := by
  rcases about key h with ⟨V1, V2, s, rfl, h1, h2⟩ | ⟨V1, V2, rfl, h1, h2⟩
  · rw [put_has h1 h2, rd_app, rd_cons, rd_app, rd_cons, lo_app, lo_app, hi_app, hi_app, (lo_below h1).1, (lo_below h1).2, (lo_above h2).1, (lo_above h2).2, (lo_one _ _ _).1, (lo_one _ _ _).2]
    have : keepP (key, s.lay v true) = true := lay_keep s v true
    rw [this]
    have hc : (s.lay v true).copy (s.lay v true).r = v := by
      obtain ⟨c0, c1, h0, h1, r, w⟩ := s
      cases w <;> rfl
    simp [hc]
  · rw [(put_new h1 h2).1, rd_app, rd_cons, rd_app, lo_app, hi_app, (lo_below h1).1, (lo_below h1).2, (lo_above h2).1, (lo_above h2).2]
    have hk : keepP (key, (⟨0, v, false, true, true, true⟩ : Sd)) = true := rfl
    have hc : (⟨0, v, false, true, true, true⟩ : Sd).copy true = v := rfl
    rw [hk]
    simp [hc]

theorem rd_del {key : ByteArray} {m : Bool} {V : List Pl} (h : Srt V) : rd (rdelL key m V) = lo key (rd V) ++ hi key (rd V) := by
  rcases about key h with ⟨V1, V2, s, rfl, h1, h2⟩ | ⟨V1, V2, rfl, h1, h2⟩
  · have e : lo key (rd (V1 ++ (key, s) :: V2)) ++ hi key (rd (V1 ++ (key, s) :: V2)) = rd V1 ++ rd V2 := by
      rw [rd_app, rd_cons, lo_app, lo_app, hi_app, hi_app, (lo_below h1).1, (lo_below h1).2, (lo_above h2).1, (lo_above h2).2, (lo_one _ _ _).1, (lo_one _ _ _).2]
      simp
    rw [e]
    cases hh : s.has s.r
    · rw [del_nil h1 h2 hh, rd_app, rd_cons]
      have : keepP (key, s) = false := hh
      rw [this]
      simp
    · rw [del_has h1 h2 hh]
      have hk : keepP (key, s.lay 0 false) = false := lay_keep s 0 false
      split
      · rw [rd_app, rd_cons, hk]
        simp
      · rw [rd_keep, rd_app, rd_cons, hk]
        simp
  · rw [del_not (put_new (k := 0) h1 h2).2, rd_app, lo_app, hi_app, (lo_below h1).1, (lo_below h1).2, (lo_above h2).1, (lo_above h2).2]
    simp

/-- What is read decides what is told. -/
theorem get_rd {key : ByteArray} {V : List Pl} (h : Srt V) : rgetV key V = match (rd V).find? (fun e => decide (e.1 = key)) with | some e => (e.2, true) | none => (0, false) := by
  have nf : ∀ {U : List Pl}, (∀ e ∈ U, e.1 ≠ key) → (rd U).find? (fun e => decide (e.1 = key)) = none := fun hU => List.find?_eq_none.2 (fun y hy => by
    obtain ⟨e, he, e1⟩ := rd_mem hy
    rw [← e1]
    simp [hU e he])
  rcases about key h with ⟨V1, V2, s, rfl, h1, h2⟩ | ⟨V1, V2, rfl, h1, h2⟩
  · rw [get_has h1 h2, rd_app, rd_cons, List.find?_append, nf (fun e he => kl_ne (h1 e he))]
    cases hh : s.has s.r
    · have : keepP (key, s) = false := hh
      rw [this]
      simp only [Bool.false_eq_true, if_false, List.nil_append, Option.none_or]
      rw [nf (fun e he => (kl_ne (h2 e he)).symm)]
    · have : keepP (key, s) = true := hh
      rw [this]
      simp
  · rw [get_not (put_new (k := 0) h1 h2).2, rd_app, List.find?_append, nf (fun e he => kl_ne (h1 e he)), nf (fun e he => (kl_ne (h2 e he)).symm)]
    rfl

theorem range_rd (frm to : ByteArray) (V : List Pl) : kx false (rl false frm to V) = (rd V).filter (fun e => !kl e.1 frm && ((to.toList == []) || !kl to e.1)) := by
  unfold kx rl rd
  rw [List.filter_map, List.filter_filter]
  congr 1

theorem next_rd (key : ByteArray) (V : List Pl) : nxP key V = match (rd V).find? (fun e => kl key e.1) with | some e => (e.1, true) | none => (⟨#[]⟩, false) := by
  unfold nxP rnx rd
  rw [List.find?_map, List.find?_filter]
  have e3 : (fun a : Pl => decide (keepP a = true ∧ ((fun e : ByteArray × Int => kl key e.1) ∘ fun e : Pl => (e.1, e.2.copy e.2.r)) a = true)) = (fun e => kl key e.1 && e.2.has e.2.r) := by
    funext e
    simp only [keepP_eq, Function.comp]
    rw [Bool.eq_iff_iff]
    simp [and_comm]
  rw [e3]
  cases V.find? (fun e => kl key e.1 && e.2.has e.2.r) <;> rfl

theorem len_rd (V : List Pl) : (V.filter keepP).length = (rd V).length := by simp [rd]

theorem slot_read {key : ByteArray} {V : List Pl} (h : (rgetV key V).2 = true) : (slotW key V).2 = true ∧ (slotW key V).1.has (slotW key V).1.r = true ∧ (slotW key V).1.copy (slotW key V).1.r = (rgetV key V).1 := by
  unfold rgetV at h ⊢
  unfold slotW
  cases hr : V[ri key V]? with
  | none => rw [hr] at h; simp at h
  | some e =>
    rw [hr] at h
    simp only at h ⊢
    by_cases hc : rs key V = true ∧ e.2.has e.2.r = true
    · rw [if_pos hc.1, if_pos hc]
      exact ⟨rfl, hc.2, rfl⟩
    · rw [if_neg hc] at h
      cases h

theorem slot_calm {key : ByteArray} {V : List Pl} (hc : ∀ e ∈ V, keepP e = true) : (slotW key V).2 = (rgetV key V).2 := by
  unfold slotW rgetV
  cases hr : V[ri key V]? with
  | none => rfl
  | some e =>
    have := hc e (List.mem_of_getElem? hr)
    rw [keepP_eq] at this
    simp only [this, and_true]
    split <;> rfl

end Go.Proofs.Ythjggbcppgbdoaa
