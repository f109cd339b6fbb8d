import Derived.Test.YthjggbcppgbdoaaK25
import Derived.Test.YthjggbcppgbdoaaRows
import Derived.Test.YthjggbcppgbdoaaK24
import Derived.ProofKit
import Derived.OpenShut
import Derived.ShutString
import Derived.ChangeOld
namespace Go.Proofs.Ythjggbcppgbdoaa
open Go.RowKit

/-- Two stores, each with the document's in its own box, apart. -/
structure Dp (w : World) (ba bb pa pb : Nat) (v u : Value) (m n : Bool) (l k : List Pl) (N : Nat) (F G : Nat → Prop) (W : World) : Prop where
  s : St W pa v m l F
  t : St W pb u n k G
  sa : ∀ j, v.ownBlock = some j → ¬ G j
  ta : ∀ j, u.ownBlock = some j → ¬ F j
  dj : ∀ j, F j → ¬ G j
  o1 : ∀ j, F j → w.heap.size ≤ j
  o2 : ∀ j, G j → w.heap.size ≤ j
  bx : W.heap[ba]? = some (.cells #[v, .bool m] 34 (0, 0))
  by_ : W.heap[bb]? = some (.cells #[u, .bool n] 34 (0, 0))
  nab : ba ≠ bb
  n1 : ¬ F ba
  n2 : ¬ G ba
  n3 : ¬ F bb
  n4 : ¬ G bb
  na : w.heap.size ≤ ba
  nb : w.heap.size ≤ bb
  bd : Bd N l
  be : Bd N k
  bl : Below w.heap.size w W

theorem Dp.swap {w : World} {ba bb pa pb : Nat} {v u : Value} {m n : Bool} {l k : List Pl} {N : Nat} {F G : Nat → Prop} {W : World} (h : Dp w ba bb pa pb v u m n l k N F G W) : Dp w bb ba pb pa u v n m k l N G F W :=
  ⟨h.t, h.s, h.ta, h.sa, fun j hj hf => h.dj j hf hj, h.o2, h.o1, h.by_, h.bx, h.nab.symm, h.n4, h.n3, h.n2, h.n1, h.nb, h.na, h.be, h.bd, h.bl⟩

theorem Dp.below {w : World} {ba bb pa pb : Nat} {v u : Value} {m n : Bool} {l k : List Pl} {N : Nat} {F G : Nat → Prop} {W W' : World} (h : Dp w ba bb pa pb v u m n l k N F G W) (hb : Below W.heap.size W W') : Dp w ba bb pa pb v u m n l k N F G W' :=
  ⟨h.s.below hb, h.t.below hb, h.sa, h.ta, h.dj, h.o1, h.o2, hp_below h.bx hb (hp_lt h.bx), hp_below h.by_ hb (hp_lt h.by_), h.nab, h.n1, h.n2, h.n3, h.n4, h.na, h.nb, h.bd, h.be, below_on h.bl hb⟩

theorem Dp.mono {w : World} {ba bb pa pb : Nat} {v u : Value} {m n : Bool} {l k : List Pl} {N M : Nat} {F G : Nat → Prop} {W : World} (h : Dp w ba bb pa pb v u m n l k N F G W) (hN : N ≤ M) : Dp w ba bb pa pb v u m n l k M F G W :=
  ⟨h.s, h.t, h.sa, h.ta, h.dj, h.o1, h.o2, h.bx, h.by_, h.nab, h.n1, h.n2, h.n3, h.n4, h.na, h.nb, h.bd.mono hN, h.be.mono hN, h.bl⟩

/-- A step of the first: its box is still to be written. -/
def DpP (w : World) (ba bb pa pb : Nat) (x : Sp) (v u : Value) (m n : Bool) (l k : List Pl) (N : Nat) (v' : Value) (w' : World) : Prop :=
  w'.heap[ba]? = some (.cells #[v, .bool m] 34 (0, 0)) ∧ (∃ q, RL w' v' q) ∧ ∃ F G, Dp w ba bb pa pb v' u (stepL x l m).2 n (stepL x l m).1 k (N + 201) F G ((w'.setCell ⟨ba, 0, none⟩ v').setCell ⟨ba, 1, none⟩ (.bool (stepL x l m).2))

theorem dp_step {w : World} {ba bb pa pb : Nat} {v u : Value} {m n : Bool} {l k : List Pl} {N : Nat} {F G : Nat → Prop} {W : World} {x : Sp} (h : Dp w ba bb pa pb v u m n l k N F G W) (hN : N ≤ 300000) (hko : x.other.size ≤ 50000) (hkt : x.to.size ≤ 50000) (hkk : x.key.size ≤ 50000) :
    Calls Try.prog 12 #[.pointer (some ⟨pa, 0, none⟩), .agg #[v, .bool m], x.agg] W fun y w' => ∃ v', y = .returned (.tuple #[.agg #[v', .bool (stepL x l m).2], .bool true]) ∧ DpP w ba bb pa pb x v u m n l k N v' w' := by
  refine (zstep_any x pa v m l F N W h.s h.bd hN hko hkt hkk).mono ?_
  rintro y w' ⟨v', rfl, F1, g1, g2, g3⟩
  have hz := h.t.z.kept g3 (fun j hj hf => h.dj j hf hj)
  have hr : RL w' u k := ⟨h.t.r.1.kept g3 h.ta, h.t.r.2⟩
  obtain ⟨Ge, e1, e2, e3⟩ := St.mk' hz hr
  obtain ⟨Fe, f1, f2, f3⟩ := St.mk' g1.z g1.r
  have hba := hp_lt h.bx
  have hbb := hp_lt h.by_
  have hx := hp_kept h.bx g3 h.n1
  have K : Kept (fun k => k = ba) w' ((w'.setCell ⟨ba, 0, none⟩ v').setCell ⟨ba, 1, none⟩ (.bool (stepL x l m).2)) := ((Kept.refl (fun k => k = ba) w').setCell (p := ⟨ba, 0, none⟩) (fun _ => rfl) _).setCell (p := ⟨ba, 1, none⟩) (fun _ => rfl) _
  have nFa : ¬ Fe ba := fun hf => (g2 _ (f1 _ hf)).elim h.n1 (fun e => by omega)
  have nFb : ¬ Fe bb := fun hf => (g2 _ (f1 _ hf)).elim h.n3 (fun e => by omega)
  refine ⟨v', rfl, hx, ⟨_, g1.r⟩, Fe, Ge, ⟨f2.kept K (fun j hj e => nFa (e ▸ hj)) (fun j hj e => by subst e; exact rl_apart g1.r hj hx (by simp)), e2.kept K (fun j hj e => h.n2 (e1 _ (e ▸ hj))) (fun j hj e => by subst e; exact rl_apart hr hj hx (by simp)), fun j hj => e3 v' _ g1.r j hj, fun j hj => f3 u _ hr j hj, fun j hj hf => ?_, fun j hj => ?_, fun j hj => h.o2 j (e1 j hj), set2 hx _ _, hp_set (hp_set (hp_kept h.by_ g3 h.n3) h.nab.symm _) h.nab.symm _, h.nab, nFa, fun hf => h.n2 (e1 _ hf), nFb, fun hf => h.n4 (e1 _ hf), h.na, h.nb, step_bd h.bd hkk hko, h.be.mono (by omega), ?_⟩⟩
  · rcases g2 j (f1 j hj) with e | e
    · exact h.dj j e (e1 j hf)
    · have := h.t.fl j (e1 j hf)
      omega
  · rcases g2 j (f1 j hj) with e | e
    · exact h.o1 j e
    · have := h.bl.size
      omega
  · exact (h.bl.trans (g3.below h.bl.size (fun j hj hf => by have := h.o1 j hf; omega))).trans (K.below (Nat.le_trans h.bl.size g3.size) (fun j hj e => by have := h.na; omega))

theorem dp_new {w W : World} {pa pb ba bb : Nat} (h1 : ZV W pa [] false (fun j => j = pa)) (h2 : ZV W pb [] false (fun j => j = pb)) (hx : W.heap[ba]? = some (.cells #[.slice none 0 0, .bool false] 34 (0, 0))) (hy : W.heap[bb]? = some (.cells #[.slice none 0 0, .bool false] 34 (0, 0))) (l1 : pa < W.heap.size) (l2 : pb < W.heap.size) (d : pa ≠ pb) (d0 : ba ≠ bb) (d1 : ba ≠ pa) (d2 : ba ≠ pb) (d3 : bb ≠ pa) (d4 : bb ≠ pb) (n1 : w.heap.size ≤ pa) (n2 : w.heap.size ≤ pb) (n3 : w.heap.size ≤ ba) (n4 : w.heap.size ≤ bb) (hb : Below w.heap.size w W) :
    Dp w ba bb pa pb (.slice none 0 0) (.slice none 0 0) false false [] [] 0 (fun j => j = pa) (fun j => j = pb) W :=
  ⟨⟨h1, ⟨rf_nil _ _, fun _ => rfl⟩, fun j hj => (by simp [Value.ownBlock] at hj), fun j hj => by subst hj; exact l1⟩, ⟨h2, ⟨rf_nil _ _, fun _ => rfl⟩, fun j hj => (by simp [Value.ownBlock] at hj), fun j hj => by subst hj; exact l2⟩, fun j hj => (by simp [Value.ownBlock] at hj), fun j hj => (by simp [Value.ownBlock] at hj), fun j hj e => d (hj.symm.trans e), fun j hj => by subst hj; exact n1, fun j hj => by subst hj; exact n2, hx, hy, d0, d1, d2, d3, d4, n3, n4, ⟨by simp, fun e he => (by cases he)⟩, ⟨by simp, fun e he => (by cases he)⟩, hb⟩

end Go.Proofs.Ythjggbcppgbdoaa

namespace Go.Proofs.Ythjggbcppgbdoaa
open Go.RowKit

set_option maxRecDepth 100000 in
set_option maxHeartbeats 8000000 in
theorem ztwo_any (sv tv : Value) (ys zs : List Sp) (w : World) (hr : Rf w 6 sv ys.length (ys.flatMap Sp.cl)) (hys : ∀ y ∈ ys, y.key.size ≤ 140737488355328 ∧ y.to.size ≤ 140737488355328 ∧ y.other.size ≤ 140737488355328) (hq : Rf w 6 tv zs.length (zs.flatMap Sp.cl)) (hzs : ∀ y ∈ zs, y.key.size ≤ 140737488355328 ∧ y.to.size ≤ 140737488355328 ∧ y.other.size ≤ 140737488355328) :
    Calls Try.prog 4 #[sv, tv] w fun x w' => x = .returned (.bool true) ∧ Below w.heap.size w w' := by
  obtain ⟨ao, cap, e, -, -⟩ := hr.shape
  obtain ⟨ap, caq, e', -, -⟩ := hq.shape
  have KN := hid known_any
  have MU := hid (much_or sv ys w hr hys)
  have MV := hid (fun W (hb : Below w.heap.size w W) => much_or tv zs W (hq.below hb) hzs)
  have HR := hid hr
  have HQ := hid hq
  subst e e'
  clear hr hys hq hzs
  go_enter Try.func4, Try.ntmps4
  go_upto_region 3 with (first
    | (go_at_call 9
       refine MU.out.mono ?_
       rintro e w1 (⟨rfl, hb⟩ | ⟨rfl, hsm, hb⟩)
       all_goals first
         | (have SM := hid hsm
            have B1 := hid hb
            clear hsm hb MU)
         | (have B1 := hid hb
            clear hb MU MV))
    | (go_at_call 9
       refine (MV.out w1 B1.out).mono ?_
       rintro e w5 (⟨rfl, hb⟩ | ⟨rfl, hsm, hb⟩)
       all_goals first
         | (have SN := hid hsm
            have B5 := hid (below_on B1.out hb)
            clear hsm hb MV B1)
         | (have B5 := hid (below_on B1.out hb)
            clear hb MV B1))
    | (go_at_call 10
       refine (KN.out _).mono ?_
       rintro e wk ⟨rfl, hbk⟩
       first
         | (have BK := hid (below_on B1.out hbk)
            clear hbk)
         | (have BK := hid (below_on B5.out hbk)
            clear hbk)))
  · go_ret
    exact ⟨rfl, BK.out⟩
  · go_ret
    exact ⟨rfl, BK.out⟩
  have NW := hid vnew
  go_upto_region 9 with (first
    | (go_at_call 11
       refine (NW.out w5).mono ?_
       rintro e w2 ⟨rfl, hz, hb, hsz⟩
       have Z2 := hid hz
       have B2 := hid hb
       have S2 := hid hsz
       have NV := hid (vnew w2)
       clear hz hb hsz NW)
    | (go_at_call 11
       refine NV.out.mono ?_
       rintro e w3 ⟨rfl, hz, hb, hsz⟩
       have Z3 := hid hz
       have B3 := hid hb
       have S3 := hid hsz
       clear hz hb hsz NV))
  obtain ⟨q1, q2, qb⟩ := two w3 (.cells #[.slice none 0 0, .bool false] 34) (.cells #[.slice none 0 0, .bool false] 34)
  have D0 := hid (dp_new (w := w) ((Z2.out.below B3.out).below qb) (Z3.out.below qb) q1 q2 (by have := S2.out; have := B3.out.size; have := qb.size; omega) (by have := S3.out; have := qb.size; omega) (by have := S2.out; omega) (by omega) (by have := S2.out; have := S3.out; omega) (by have := S3.out; omega) (by have := S2.out; have := S3.out; omega) (by have := S3.out; omega) B5.out.size (by have := B5.out.size; have := B2.out.size; omega) (by have := B5.out.size; have := B2.out.size; have := B3.out.size; omega) (by have := B5.out.size; have := B2.out.size; have := B3.out.size; omega) (below_on (below_on (below_on B5.out B2.out) B3.out) qb))
  clear q1 q2 qb Z2 Z3 B2 B3 S2 S3 B5
  generalize (w3.alloc (.cells #[.slice none 0 0, .bool false] 34)).alloc (.cells #[.slice none 0 0, .bool false] 34) = W4 at D0 ⊢
  generalize w3.heap.size + 1 = bb at D0 ⊢
  generalize w3.heap.size = ba at D0 ⊢
  generalize w2.heap.size = pb at D0 ⊢
  generalize w5.heap.size = pa at D0 ⊢
  go_wp2_with fail
  go_loopw [9] (fun i wr => ∃ (k : Nat) (v u : Value) (m n : Bool) (l q : List Pl) (F G : Nat → Prop), i = .int .i64 k ∧ k ≤ 200 ∧ Hid (Dp w ba bb pa pb v u m n l q (402 * k) F G wr)) (fun i _ => 201 - (intOf i).toNat)
  case atStart => exact ⟨0, _, _, _, _, _, _, _, _, rfl, Nat.zero_le _, D0⟩
  case round =>
    obtain ⟨k, v, u, m, n, l, q, F, G, rfl, hk, hp⟩ := hrel
    have hks := SM.out.n
    have hkz := SN.out.n
    obtain ⟨ao1, cap1, ev, -, -⟩ := hp.out.s.r.1.shape
    generalize hln : l.length = ln at ev
    clear hln
    subst ev
    obtain ⟨ao2, cap2, ev, -, -⟩ := hp.out.t.r.1.shape
    generalize hln : q.length = lq at ev
    clear hln
    subst ev
    by_cases h1 : k < ys.length
    · obtain ⟨g1, off1, cap1, e, -, -, hcell⟩ := (HR.out.below hp.out.bl).lits (by omega) (by omega)
      injection e with e1 _ e3
      subst e1 e3
      obtain ⟨x, hxe⟩ : ∃ x, ys[k] = x := ⟨_, rfl⟩
      have hxk := SM.out.k x (by rw [← hxe]; exact List.getElem_mem h1)
      have hfl : ∀ c u, c < 6 → x.cl[c]? = some u → (ys.flatMap Sp.cl)[k * 6 + c]? = some u := fun c u hc hu => by
        rw [flat_get Sp.cl 6 Sp.len ys k c hc, List.getElem?_eq_getElem h1, hxe]
        exact hu
      have v0 := hcell _ _ (hfl 0 _ (by omega) rfl)
      have v1 := hcell _ _ (hfl 1 _ (by omega) rfl)
      have v2 := hcell _ _ (hfl 2 _ (by omega) rfl)
      have v3 := hcell _ _ (hfl 3 _ (by omega) rfl)
      have v4 := hcell _ _ (hfl 4 _ (by omega) rfl)
      have v5 := hcell _ _ (hfl 5 _ (by omega) rfl)
      simp only [Nat.add_zero, ← Nat.add_assoc] at v0 v1 v2 v3 v4 v5
      have h1k : (k : Int) < ys.length := by omega
      obtain ⟨xk, xv, xn, key, to, oth⟩ := x
      simp only at hxk v0 v1 v2 v3 v4 v5
      have T1 := hid (dp_step (x := ⟨xk, xv, xn, key, to, oth⟩) (hp.out.below (Below.refl wr.heap.size wr).drew) (by omega) hxk.2.2 hxk.2.1 hxk.1)
      obtain ⟨c0, c1⟩ := cells2 hp.out.bx
      have fa : ∀ j, wr.frozen? ⟨ba, j, none⟩ = false := fun j => free_of_block hp.out.bx
      have hk200 : k + 1 ≤ 200 := by omega
      clear hcell hfl hxe hxk D0
      go_upto_region 14 with fail
      go_region_with (
        go_at_call 12
        refine T1.out.mono ?_
        rintro e w6 ⟨v', rfl, hx, ⟨qq, hrq⟩, F', G', hd⟩
        obtain ⟨ao3, cap3, eu, -, -⟩ := hrq.1.shape
        generalize (_ : List Pl).length = n3 at eu
        subst eu
        have DD := hid hd
        obtain ⟨d0, d1⟩ := cells2 hx
        have fb : ∀ j, w6.frozen? ⟨ba, j, none⟩ = false := fun j => free_of_block hx
        clear hd hrq hx)
      all_goals
        clear v0 v1 v2 v3 v4 v5 c0 c1 fa T1 d0 d1 fb hp
        generalize (w6.setCell ⟨ba, 0, none⟩ (.slice ao3 n3 cap3)).setCell ⟨ba, 1, none⟩ (.bool (stepL ⟨xk, xv, xn, key, to, oth⟩ l m).2) = W7 at DD ⊢
        by_cases h2 : k < zs.length
        · have h2k : (k : Int) < zs.length := by omega
          obtain ⟨g2, off2, cap2, e, -, -, hcell⟩ := (HQ.out.below DD.out.bl).lits (by omega) (by omega)
          injection e with e1 _ e3
          subst e1 e3
          obtain ⟨x, hxe⟩ : ∃ x, zs[k] = x := ⟨_, rfl⟩
          have hxk := SN.out.k x (by rw [← hxe]; exact List.getElem_mem h2)
          have hfl : ∀ c u, c < 6 → x.cl[c]? = some u → (zs.flatMap Sp.cl)[k * 6 + c]? = some u := fun c u hc hu => by
            rw [flat_get Sp.cl 6 Sp.len zs k c hc, List.getElem?_eq_getElem h2, hxe]
            exact hu
          have v0 := hcell _ _ (hfl 0 _ (by omega) rfl)
          have v1 := hcell _ _ (hfl 1 _ (by omega) rfl)
          have v2 := hcell _ _ (hfl 2 _ (by omega) rfl)
          have v3 := hcell _ _ (hfl 3 _ (by omega) rfl)
          have v4 := hcell _ _ (hfl 4 _ (by omega) rfl)
          have v5 := hcell _ _ (hfl 5 _ (by omega) rfl)
          simp only [Nat.add_zero, ← Nat.add_assoc] at v0 v1 v2 v3 v4 v5
          obtain ⟨yk, yv, yn, kez, tz, otz⟩ := x
          simp only at hxk v0 v1 v2 v3 v4 v5
          have T2 := hid (dp_step (x := ⟨yk, yv, yn, kez, tz, otz⟩) (DD.out.swap.below (Below.refl W7.heap.size W7).drew) (by omega) hxk.2.2 hxk.2.1 hxk.1)
          obtain ⟨c0, c1⟩ := cells2 DD.out.by_
          have fa : ∀ j, W7.frozen? ⟨bb, j, none⟩ = false := fun j => free_of_block DD.out.by_
          clear hcell hfl hxe hxk
          go_upto_region 17 with fail
          go_region_with (
            go_at_call 12
            refine T2.out.mono ?_
            rintro e w8 ⟨v', rfl, hx, ⟨qq, hrq⟩, F', G', hd⟩
            obtain ⟨ao4, cap4, eu, -, -⟩ := hrq.1.shape
            generalize (_ : List Pl).length = n4 at eu
            subst eu
            have DE := hid hd
            obtain ⟨d0, d1⟩ := cells2 hx
            have fb : ∀ j, w8.frozen? ⟨bb, j, none⟩ = false := fun j => free_of_block hx
            clear hd hrq hx)
          all_goals
            go_wp2_with fail
            go_roundw
            case rel => exact ⟨k + 1, _, _, _, _, _, _, _, _, by go_num, by omega, hid (DE.out.swap.mono (by omega))⟩
            case measure => simp [intOf]; omega
        · have h2k : ¬ (k : Int) < zs.length := by omega
          go_wp2_with fail
          go_roundw
          case rel => exact ⟨k + 1, _, _, _, _, _, _, _, _, by go_num, by omega, hid (DD.out.mono (by omega))⟩
          case measure => simp [intOf]; omega
    · by_cases h2 : k < zs.length
      · have h1k : ¬ (k : Int) < ys.length := by omega
        have h2k : (k : Int) < zs.length := by omega
        have hk200 : k + 1 ≤ 200 := by omega
        clear D0
        obtain ⟨g2, off2, cap2, e, -, -, hcell⟩ := (HQ.out.below hp.out.bl).lits (by omega) (by omega)
        injection e with e1 _ e3
        subst e1 e3
        obtain ⟨x, hxe⟩ : ∃ x, zs[k] = x := ⟨_, rfl⟩
        have hxk := SN.out.k x (by rw [← hxe]; exact List.getElem_mem h2)
        have hfl : ∀ c u, c < 6 → x.cl[c]? = some u → (zs.flatMap Sp.cl)[k * 6 + c]? = some u := fun c u hc hu => by
          rw [flat_get Sp.cl 6 Sp.len zs k c hc, List.getElem?_eq_getElem h2, hxe]
          exact hu
        have v0 := hcell _ _ (hfl 0 _ (by omega) rfl)
        have v1 := hcell _ _ (hfl 1 _ (by omega) rfl)
        have v2 := hcell _ _ (hfl 2 _ (by omega) rfl)
        have v3 := hcell _ _ (hfl 3 _ (by omega) rfl)
        have v4 := hcell _ _ (hfl 4 _ (by omega) rfl)
        have v5 := hcell _ _ (hfl 5 _ (by omega) rfl)
        simp only [Nat.add_zero, ← Nat.add_assoc] at v0 v1 v2 v3 v4 v5
        obtain ⟨yk, yv, yn, kez, tz, otz⟩ := x
        simp only at hxk v0 v1 v2 v3 v4 v5
        have T2 := hid (dp_step (x := ⟨yk, yv, yn, kez, tz, otz⟩) (hp.out.swap.below (Below.refl wr.heap.size wr).drew) (by omega) hxk.2.2 hxk.2.1 hxk.1)
        obtain ⟨c0, c1⟩ := cells2 hp.out.by_
        have fa : ∀ j, wr.frozen? ⟨bb, j, none⟩ = false := fun j => free_of_block hp.out.by_
        clear hcell hfl hxe hxk
        go_upto_region 17 with fail
        go_region_with (
          go_at_call 12
          refine T2.out.mono ?_
          rintro e w8 ⟨v', rfl, hx, ⟨qq, hrq⟩, F', G', hd⟩
          obtain ⟨ao4, cap4, eu, -, -⟩ := hrq.1.shape
          generalize (_ : List Pl).length = n4 at eu
          subst eu
          have DE := hid hd
          obtain ⟨d0, d1⟩ := cells2 hx
          have fb : ∀ j, w8.frozen? ⟨bb, j, none⟩ = false := fun j => free_of_block hx
          clear hd hrq hx)
        all_goals
          go_wp2_with fail
          go_roundw
          case rel => exact ⟨k + 1, _, _, _, _, _, _, _, _, by go_num, by omega, hid (DE.out.swap.mono (by omega))⟩
          case measure => simp [intOf]; omega
      · have h1k : ¬ (k : Int) < ys.length := by omega
        have h2k : ¬ (k : Int) < zs.length := by omega
        have CA1 := hid (show ∀ W, Below wr.heap.size wr W → _ from fun W hb => all_any pa (.slice ao1 ln cap1) m l F W (hp.out.s.z.below hb) (hp.out.s.r.below hb) (by have := hp.out.bd.n; omega) (fun e he => by have := hp.out.bd.k e he; omega) (fun j hj => Nat.lt_of_lt_of_le (hp.out.s.fl j hj) hb.size))
        have CA2 := hid (show ∀ W, Below wr.heap.size wr W → _ from fun W hb => all_any pb (.slice ao2 lq cap2) n q G W (hp.out.t.z.below hb) (hp.out.t.r.below hb) (by have := hp.out.be.n; omega) (fun e he => by have := hp.out.be.k e he; omega) (fun j hj => Nat.lt_of_lt_of_le (hp.out.t.fl j hj) hb.size))
        clear hks hkz HR HQ D0
        obtain ⟨c0, c1⟩ := cells2 hp.out.bx
        obtain ⟨b0, b1⟩ := cells2 hp.out.by_
        go_wp2_with (first
          | (go_at_call 15
             refine (CA1.out wr (Below.refl _ _)).mono ?_
             rintro e w7 ⟨rfl, hb7⟩
             have B7 := hid hb7
             obtain ⟨b0, b1⟩ := cells2 (hp_below hp.out.by_ hb7 (hp_lt hp.out.by_))
             clear CA1 hb7)
          | (go_at_call 15
             refine (CA2.out w7 B7.out).mono ?_
             rintro e w8 ⟨rfl, hb8⟩
             have B8 := hid (below_on hp.out.bl (below_on B7.out hb8))
             clear CA2 hb8)
          | (go_at_call 10
             refine (KN.out w8).mono ?_
             rintro e w9 ⟨rfl, hb9⟩
             have B9 := hid (below_on B8.out hb9)
             clear KN hb9))
        go_ret
        exact ⟨rfl, B9.out⟩

end Go.Proofs.Ythjggbcppgbdoaa

namespace Go.Proofs.Ythjggbcppgbdoaa
open Go.ChangeShapes Go.WideShapes Go.ChangeAt Go.RowKit

theorem Try.own : ownKnob Try.prog.godebug = none := by kernel_rfl
theorem Try.laidOut : laidOutB Try.prog = true := by kernel_rfl

set_option maxRecDepth 100000 in
theorem zigzagTwo_lifted (os : Os) (started : os.Started) (H : Type) (enc : TypeId × Value → H) :
    ReturnsInHanded {} Try.checked os 4 .any (Rows.zigzagTwoSpec.pre6 enc Try.prog Try.f4 Rows.zigzagTwoRow.domain false) (Rows.zigzagTwoSpec.post enc Try.prog Try.f4 false true false false) := by
  refine returnsInHanded_of_change_sized (C := Try.checked) Try.own started (by kernel_rfl) Try.func4
    (ChangeSpec.witness6 (enc := enc) (C := Try.checked) false ⟨#[], #[.slice none 0 0, .slice none 0 0], []⟩ 8 (by kernel_rfl) (by kernel_rfl) (by kernel_rfl) (by kernel_rfl)) ?_
  intro W base args ds gs before hval0 hW hcnd hsz0 _
  have hval : ∀ (j : Nat) t v, Try.f4.params[j]? = some t → args[j]? = some v → Value.okWide Try.prog W .any base t v := hval0
  have hsz : (DataW.weightsEach Try.prog (Try.f4.params.toList ++ Rows.zigzagTwoSpec.plain.varTypes Try.prog) (ds ++ gs)).all (· ≤ reachBytes) = true := hsz0
  have hW' := hW
  obtain ⟨p, q, hA0, hV, rfl, hfz, hnd⟩ := hW
  have hA : DataW.TrodAll enc Try.prog W 0 (fun _ => true) true Try.f4.params.toList args.toList ds p := hA0
  rw [Try.params4] at hA hval hsz
  obtain ⟨v0, vs0, d0, ds0, p0, q0, hargs0, rfl, rfl, h0, r0⟩ := trodAll_cons hA
  obtain ⟨v1, vs1, d1, ds1, p1, q1, hargs1, rfl, rfl, h1, r1⟩ := trodAll_cons r0
  obtain ⟨rfl, rfl, rfl⟩ := trodAll_nil r1
  subst hargs1
  obtain rfl : args = #[v0, v1] := by cases args; simp_all
  obtain ⟨rfl, rfl⟩ := trodVars_none hV
  obtain ⟨a0, len0, cap0, rfl⟩ := okWide_slice Try.underlying22 (hval 0 22 v0 rfl rfl)
  obtain ⟨a1, len1, cap1, rfl⟩ := okWide_slice Try.underlying22 (hval 1 22 v1 rfl rfl)
  have k0 := h0
  have lt0 : ∀ x ∈ p0, x.block < W.heap.size := by obtain ⟨m, hm⟩ := k0; exact DataW.trod_lt m _ _ _ hm
  have k1 := h1
  have lt1 : ∀ x ∈ p1, x.block < W.heap.size := by obtain ⟨m, hm⟩ := k1; exact DataW.trod_lt m _ _ _ hm
  obtain ⟨m0, hm0⟩ := h0
  obtain ⟨u0, ys0, e0, hs0, hy0⟩ := steps_of_trod hm0 (fun n hn => by
    have := List.all_eq_true.1 hsz _ (DataW.weights_mem_each (j := 0) (t := 22) (d := d0) rfl rfl n hn)
    simpa using this)
  have e0' : Value.slice a0 len0 cap0 = u0 := by injection (show [Value.slice a0 len0 cap0] = [u0] from e0)
  subst e0'
  obtain ⟨m1, hm1⟩ := h1
  obtain ⟨u1, ys1, e1, hs1, hy1⟩ := steps_of_trod hm1 (fun n hn => by
    have := List.all_eq_true.1 hsz _ (DataW.weights_mem_each (j := 1) (t := 22) (d := d1) rfl rfl n hn)
    simpa using this)
  have e1' : Value.slice a1 len1 cap1 = u1 := by injection (show [Value.slice a1 len1 cap1] = [u1] from e1)
  subst e1'
  clear hA0 hval0 hsz hsz0
  refine (ztwo_any _ _ ys0 ys1 W hs0 hy0 hs1 hy1).mono fun e W' ⟨he, bel⟩ => ?_
  subst he
  exact ⟨_, rfl, _, _, _, [], _, [], hW', trodAll_mk1 (shut_bool Try.underlying4 _), (trodAll_cons_mk (Below.trod Try.laidOut (by kernel_rfl) (of_decide_eq_true (by kernel_rfl)) k0 bel lt0) (trodAll_cons_mk (Below.trod Try.laidOut (by kernel_rfl) (of_decide_eq_true (by kernel_rfl)) k1 bel lt1) trodAll_mk0)), rfl, bel.frame _, fun h => by cases h⟩

theorem zigzagTwo_holds : Rows.ZigzagTwoSaid :=
  OpenClaim.holds_of_wide 4 Try.f4 rfl rfl rfl rfl rfl rfl rfl ⟨rfl, rfl, rfl, rfl, rfl⟩ rfl rfl rfl rfl rfl (by kernel_rfl) Try.func4 (by kernel_rfl)
    (of_decide_eq_true (by kernel_rfl)) (by unfold Func.isWrapper; first | (rw [if_pos (by decide +kernel)]; kernel_rfl) | (rw [if_neg (by decide +kernel)]; exact ⟨rfl, rfl⟩))
    (fun os started H enc _ => zigzagTwo_lifted os started H enc)

#print axioms zigzagTwo_holds
end Go.Proofs.Ythjggbcppgbdoaa
