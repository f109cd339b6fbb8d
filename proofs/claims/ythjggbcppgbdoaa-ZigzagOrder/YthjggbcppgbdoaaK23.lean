import Derived.Test.YthjggbcppgbdoaaK21
import Derived.Test.YthjggbcppgbdoaaK22
namespace Go.Proofs.Ythjggbcppgbdoaa
open Go.RowKit

theorem st_fin2 {w w1 w2 : World} {p : Nat} {v' : Value} {m' : Bool} {l' : List Pl} {F F1 S : Nat → Prop} {r : Nat} {o : Option Addr} {n c : Nat} {q : Bool} (hz : ZV w1 p l' m' F1) (hr : RL w2 v' l') (hk2 : Kept S w1 w2) (hS : ∀ j, S j → w.heap.size ≤ j ∧ ¬ F1 j) (hx : w2.heap[r]? = some (.cells #[.slice o n c, .bool q] 34 (0, 0))) (hn : ¬ F1 r) (hw : w.heap.size ≤ r) (hk : Kept F w w1) :
    ∃ F', St ((w2.setCell ⟨r, 0, none⟩ v').setCell ⟨r, 1, none⟩ (.bool m')) p v' m' l' F' ∧ (∀ j, F' j → F1 j) ∧ Kept F w ((w2.setCell ⟨r, 0, none⟩ v').setCell ⟨r, 1, none⟩ (.bool m')) := by
  have K : Kept (fun k => k = r) w2 ((w2.setCell ⟨r, 0, none⟩ v').setCell ⟨r, 1, none⟩ (.bool m')) := ((Kept.refl (fun k => k = r) w2).setCell (p := ⟨r, 0, none⟩) (fun _ => rfl) v').setCell (p := ⟨r, 1, none⟩) (fun _ => rfl) (.bool m')
  have hz3 := (hz.kept hk2 (fun j hj e => (hS j e).2 hj)).kept K (fun j hj e => hn (e ▸ hj))
  have hr3 : RL ((w2.setCell ⟨r, 0, none⟩ v').setCell ⟨r, 1, none⟩ (.bool m')) v' l' := ⟨hr.1.kept K (fun j hj e => by subst e; exact rl_apart hr hj hx (by simp)), hr.2⟩
  obtain ⟨F', f1, f2, -⟩ := St.mk' hz3 hr3
  exact ⟨F', f2, f1, (hk.trans hk2 (fun i hi e => by have := (hS i e).1; omega)).trans K (fun i hi e => by subst e; omega)⟩


set_option maxRecDepth 100000 in
set_option maxHeartbeats 4000000 in
theorem step_put (xv xn : Int) (key to oth : ByteArray) (p : Nat) (v : Value) (m : Bool) (l : List Pl) (F : Nat → Prop) (w : World) (h : St w p v m l F) (hl : l.length ≤ 500000) (ho : key.size ≤ 281474976710656) :
    Calls Try.prog 12 #[.pointer (some ⟨p, 0, none⟩), .agg #[v, .bool m], .agg #[.int .i64 1, .int .i64 xv, .int .i64 xn, .string key, .string to, .string oth]] w fun y w' => ∃ v', y = .returned (.tuple #[.agg #[v', .bool m], .bool true]) ∧ After p m (rputL key xv l) F w v' w' := by
  obtain ⟨ao, cap, e, -, -⟩ := h.r.1.shape
  subst e
  have nF : ∀ k, ¬ F (w.heap.size + k) := fun k hk => by have := h.fl _ hk; omega
  have A1 := hid (vput p key xv l m F _ (h.z.below (tW_below w (.slice ao l.length cap) m ⟨1, xv, xn, key, to, oth⟩)) hl ho)
  have HP := hid (show ∀ w1, Kept F (tW w (.slice ao l.length cap) m ⟨1, xv, xn, key, to, oth⟩) w1 → w1.heap[w.heap.size]? = some (.cells #[.slice ao l.length cap, .bool m] 34 (0, 0)) ∧ w1.heap[w.heap.size + 1]? = some (.cells (⟨1, xv, xn, key, to, oth⟩ : Sp).cells 36 (0, 0)) ∧ w1.heap[w.heap.size + 1 + 1]? = some (.cells #[.slice none 0 0, .bool false] 34 (0, 0)) from fun w1 hk => ⟨hp_kept (tW_s _ _ _ _) hk (nF 0), hp_kept (tW_x _ _ _ _) hk (nF 1), hp_kept (tW_r _ _ _ _) hk (nF 2)⟩)
  have A2 := hid (show ∀ w1, Kept F (tW w (.slice ao l.length cap) m ⟨1, xv, xn, key, to, oth⟩) w1 → _ from fun w1 hk => rput_any (.slice ao l.length cap) m l key xv w1 ⟨(h.r.below (tW_below w (.slice ao l.length cap) m ⟨1, xv, xn, key, to, oth⟩)).1.kept hk h.ap, h.r.2⟩ (by omega))
  have NF := hid nF
  have WS := hid (tW_size w (.slice ao l.length cap) m ⟨1, xv, xn, key, to, oth⟩)
  have TB := hid (tW_below w (.slice ao l.length cap) m ⟨1, xv, xn, key, to, oth⟩)
  obtain ⟨y0, y1⟩ := cells2 (tW_s w (.slice ao l.length cap) m ⟨1, xv, xn, key, to, oth⟩)
  obtain ⟨x0, x1, x2, x3, x4, x5⟩ : (tW w (.slice ao l.length cap) m ⟨1, xv, xn, key, to, oth⟩).cell? ⟨w.heap.size + 1, 0, none⟩ = some (.int .i64 1) ∧ (tW w (.slice ao l.length cap) m ⟨1, xv, xn, key, to, oth⟩).cell? ⟨w.heap.size + 1, 1, none⟩ = some (.int .i64 xv) ∧ (tW w (.slice ao l.length cap) m ⟨1, xv, xn, key, to, oth⟩).cell? ⟨w.heap.size + 1, 2, none⟩ = some (.int .i64 xn) ∧ (tW w (.slice ao l.length cap) m ⟨1, xv, xn, key, to, oth⟩).cell? ⟨w.heap.size + 1, 3, none⟩ = some (.string key) ∧ (tW w (.slice ao l.length cap) m ⟨1, xv, xn, key, to, oth⟩).cell? ⟨w.heap.size + 1, 4, none⟩ = some (.string to) ∧ (tW w (.slice ao l.length cap) m ⟨1, xv, xn, key, to, oth⟩).cell? ⟨w.heap.size + 1, 5, none⟩ = some (.string oth) := cells6 (tW_x w (.slice ao l.length cap) m ⟨1, xv, xn, key, to, oth⟩)
  clear h hl nF
  go_enter Try.func12, Try.ntmps12
  go_upto_region 18 with (first
    | (go_at_call 16
       refine A1.out.mono ?_
       rintro e w1 ⟨rfl, hz, hk⟩
       obtain ⟨s1, q1, r1⟩ := HP.out w1 hk
       obtain ⟨s10, s11⟩ := cells2 s1
       obtain ⟨q10, q11, q12, q13, q14, q15⟩ : (w1).cell? ⟨w.heap.size + 1, 0, none⟩ = some (.int .i64 1) ∧ (w1).cell? ⟨w.heap.size + 1, 1, none⟩ = some (.int .i64 xv) ∧ (w1).cell? ⟨w.heap.size + 1, 2, none⟩ = some (.int .i64 xn) ∧ (w1).cell? ⟨w.heap.size + 1, 3, none⟩ = some (.string key) ∧ (w1).cell? ⟨w.heap.size + 1, 4, none⟩ = some (.string to) ∧ (w1).cell? ⟨w.heap.size + 1, 5, none⟩ = some (.string oth) := cells6 q1
       have Z1 := hid hz
       have K1 := hid hk
       have R1 := hid r1
       have S1 := hid s1
       clear hz hk s1 q1 r1 x0 x1 x2 x3 x4 x5 y0 y1)
    | (go_at_call 34
       refine (A2.out w1 K1.out).mono ?_
       rintro e w2 ⟨v', rfl, hr, hb⟩
       obtain ⟨ao2, cap2, eu, -, -⟩ := hr.1.shape
       generalize (_ : List Pl).length = n2 at eu
       subst eu
       have RR := hid hr
       have B2 := hid hb
       have R2 := hid (hp_below R1.out hb (hp_lt R1.out))
       have S2 := hid (hp_below S1.out hb (hp_lt S1.out))
       have fr : ∀ j, w2.frozen? ⟨w.heap.size, j, none⟩ = false := fun j => free_of_block S2.out
       obtain ⟨r20, r21⟩ := cells2 S2.out
       clear hr hb s10 s11 q10 q11 q12 q13 q14 q15))
  have K3 := hid (show Kept (fun j => j = w.heap.size) w1 ((w2.setCell ⟨w.heap.size, 0, none⟩ (.slice ao2 n2 cap2)).setCell ⟨w.heap.size, 1, none⟩ (.bool m)) from (((Kept.ofBelow B2.out).mono (S' := fun j => j = w.heap.size) (fun _ _ e => e.elim)).setCell (p := ⟨w.heap.size, 0, none⟩) (fun _ => rfl) _).setCell (p := ⟨w.heap.size, 1, none⟩) (fun _ => rfl) _)
  have RL3 := hid (show RL ((w2.setCell ⟨w.heap.size, 0, none⟩ (.slice ao2 n2 cap2)).setCell ⟨w.heap.size, 1, none⟩ (.bool m)) (.slice ao2 n2 cap2) _ from ⟨RR.out.1.kept (((Kept.refl (fun j => j = w.heap.size) w2).setCell (p := ⟨w.heap.size, 0, none⟩) (fun _ => rfl) _).setCell (p := ⟨w.heap.size, 1, none⟩) (fun _ => rfl) _) (fun j hj e => by subst e; exact rl_apart RR.out hj S2.out (by simp)), RR.out.2⟩)
  have R3 := hid (hp_set (hp_set R2.out (show w.heap.size + 1 + 1 ≠ w.heap.size by omega) (.slice ao2 n2 cap2) (p := ⟨w.heap.size, 0, none⟩)) (show w.heap.size + 1 + 1 ≠ w.heap.size by omega) (.bool m) (p := ⟨w.heap.size, 1, none⟩))
  have S3 := hid (set2 S2.out (.slice ao2 n2 cap2) (.bool m))
  clear r20 r21 fr RR B2 R2 S2
  generalize (w2.setCell ⟨w.heap.size, 0, none⟩ (.slice ao2 n2 cap2)).setCell ⟨w.heap.size, 1, none⟩ (.bool m) = W3 at K3 RL3 R3 S3 ⊢
  obtain ⟨d0, d1⟩ := cells2 S3.out
  obtain ⟨d2, d3⟩ := cells2 R3.out
  have fr : ∀ j, W3.frozen? ⟨w.heap.size + 1 + 1, j, none⟩ = false := fun j => free_of_block R3.out
  go_wp2_with fail
  refine bodyPost_ret (ret_agg34i Try.results12 rfl rfl (set2 R3.out _ _)) rfl ?_
  obtain ⟨F', f1, f2, f3⟩ := st_fin2 (w := w) Z1.out RL3.out K3.out (fun j hj => ⟨by omega, fun hg => hg.elim (by subst hj; exact NF.out 0) (fun q => by have e1 := q.1; have e2 := WS.out; omega)⟩) R3.out (fun hg => hg.elim (NF.out 2) (fun q => by have e1 := q.1; have e2 := WS.out; omega)) (by omega) (show Kept F w w1 from (Kept.ofBelow TB.out).mono (fun _ _ e => e.elim) |>.trans K1.out (fun _ _ e => e))
  exact ⟨_, rfl, F', f1, fun j hj => (f2 j hj).imp (fun e => e) (fun q => by have e1 := q.1; have e2 := WS.out; omega), f3⟩


set_option maxRecDepth 100000 in
set_option maxHeartbeats 4000000 in
theorem step_del (xv xn : Int) (key to oth : ByteArray) (p : Nat) (v : Value) (m : Bool) (l : List Pl) (F : Nat → Prop) (w : World) (h : St w p v m l F) (hl : l.length ≤ 500000) :
    Calls Try.prog 12 #[.pointer (some ⟨p, 0, none⟩), .agg #[v, .bool m], .agg #[.int .i64 2, .int .i64 xv, .int .i64 xn, .string key, .string to, .string oth]] w fun y w' => ∃ v', y = .returned (.tuple #[.agg #[v', .bool m], .bool true]) ∧ After p m (rdelL key m l) F w v' w' := by
  obtain ⟨ao, cap, e, -, -⟩ := h.r.1.shape
  subst e
  have nF : ∀ k, ¬ F (w.heap.size + k) := fun k hk => by have := h.fl _ hk; omega
  have A1 := hid (vdel p key l m F _ (h.z.below (tW_below w (.slice ao l.length cap) m ⟨2, xv, xn, key, to, oth⟩)) hl)
  have HP := hid (show ∀ w1, Kept F (tW w (.slice ao l.length cap) m ⟨2, xv, xn, key, to, oth⟩) w1 → w1.heap[w.heap.size]? = some (.cells #[.slice ao l.length cap, .bool m] 34 (0, 0)) ∧ w1.heap[w.heap.size + 1]? = some (.cells (⟨2, xv, xn, key, to, oth⟩ : Sp).cells 36 (0, 0)) ∧ w1.heap[w.heap.size + 1 + 1]? = some (.cells #[.slice none 0 0, .bool false] 34 (0, 0)) from fun w1 hk => ⟨hp_kept (tW_s _ _ _ _) hk (nF 0), hp_kept (tW_x _ _ _ _) hk (nF 1), hp_kept (tW_r _ _ _ _) hk (nF 2)⟩)
  have A2 := hid (show ∀ w1, Kept F (tW w (.slice ao l.length cap) m ⟨2, xv, xn, key, to, oth⟩) w1 → _ from fun w1 hk => rdel_any (.slice ao l.length cap) m l key w1 ⟨(h.r.below (tW_below w (.slice ao l.length cap) m ⟨2, xv, xn, key, to, oth⟩)).1.kept hk h.ap, h.r.2⟩ (by omega))
  have NF := hid nF
  have WS := hid (tW_size w (.slice ao l.length cap) m ⟨2, xv, xn, key, to, oth⟩)
  have TB := hid (tW_below w (.slice ao l.length cap) m ⟨2, xv, xn, key, to, oth⟩)
  obtain ⟨y0, y1⟩ := cells2 (tW_s w (.slice ao l.length cap) m ⟨2, xv, xn, key, to, oth⟩)
  obtain ⟨x0, x1, x2, x3, x4, x5⟩ : (tW w (.slice ao l.length cap) m ⟨2, xv, xn, key, to, oth⟩).cell? ⟨w.heap.size + 1, 0, none⟩ = some (.int .i64 2) ∧ (tW w (.slice ao l.length cap) m ⟨2, xv, xn, key, to, oth⟩).cell? ⟨w.heap.size + 1, 1, none⟩ = some (.int .i64 xv) ∧ (tW w (.slice ao l.length cap) m ⟨2, xv, xn, key, to, oth⟩).cell? ⟨w.heap.size + 1, 2, none⟩ = some (.int .i64 xn) ∧ (tW w (.slice ao l.length cap) m ⟨2, xv, xn, key, to, oth⟩).cell? ⟨w.heap.size + 1, 3, none⟩ = some (.string key) ∧ (tW w (.slice ao l.length cap) m ⟨2, xv, xn, key, to, oth⟩).cell? ⟨w.heap.size + 1, 4, none⟩ = some (.string to) ∧ (tW w (.slice ao l.length cap) m ⟨2, xv, xn, key, to, oth⟩).cell? ⟨w.heap.size + 1, 5, none⟩ = some (.string oth) := cells6 (tW_x w (.slice ao l.length cap) m ⟨2, xv, xn, key, to, oth⟩)
  clear h hl nF
  go_enter Try.func12, Try.ntmps12
  go_upto_region 18 with (first
    | (go_at_call 17
       refine A1.out.mono ?_
       rintro e w1 ⟨rfl, hz, hk⟩
       obtain ⟨s1, q1, r1⟩ := HP.out w1 hk
       obtain ⟨s10, s11⟩ := cells2 s1
       obtain ⟨q10, q11, q12, q13, q14, q15⟩ : (w1).cell? ⟨w.heap.size + 1, 0, none⟩ = some (.int .i64 2) ∧ (w1).cell? ⟨w.heap.size + 1, 1, none⟩ = some (.int .i64 xv) ∧ (w1).cell? ⟨w.heap.size + 1, 2, none⟩ = some (.int .i64 xn) ∧ (w1).cell? ⟨w.heap.size + 1, 3, none⟩ = some (.string key) ∧ (w1).cell? ⟨w.heap.size + 1, 4, none⟩ = some (.string to) ∧ (w1).cell? ⟨w.heap.size + 1, 5, none⟩ = some (.string oth) := cells6 q1
       have Z1 := hid hz
       have K1 := hid hk
       have R1 := hid r1
       have S1 := hid s1
       clear hz hk s1 q1 r1 x0 x1 x2 x3 x4 x5 y0 y1)
    | (go_at_call 35
       refine (A2.out w1 K1.out).mono ?_
       rintro e w2 ⟨v', rfl, hr, hb⟩
       obtain ⟨ao2, cap2, eu, -, -⟩ := hr.1.shape
       generalize (_ : List Pl).length = n2 at eu
       subst eu
       have RR := hid hr
       have B2 := hid hb
       have R2 := hid (hp_below R1.out hb (hp_lt R1.out))
       have S2 := hid (hp_below S1.out hb (hp_lt S1.out))
       have fr : ∀ j, w2.frozen? ⟨w.heap.size, j, none⟩ = false := fun j => free_of_block S2.out
       obtain ⟨r20, r21⟩ := cells2 S2.out
       clear hr hb s10 s11 q10 q11 q12 q13 q14 q15))
  have K3 := hid (show Kept (fun j => j = w.heap.size) w1 ((w2.setCell ⟨w.heap.size, 0, none⟩ (.slice ao2 n2 cap2)).setCell ⟨w.heap.size, 1, none⟩ (.bool m)) from (((Kept.ofBelow B2.out).mono (S' := fun j => j = w.heap.size) (fun _ _ e => e.elim)).setCell (p := ⟨w.heap.size, 0, none⟩) (fun _ => rfl) _).setCell (p := ⟨w.heap.size, 1, none⟩) (fun _ => rfl) _)
  have RL3 := hid (show RL ((w2.setCell ⟨w.heap.size, 0, none⟩ (.slice ao2 n2 cap2)).setCell ⟨w.heap.size, 1, none⟩ (.bool m)) (.slice ao2 n2 cap2) _ from ⟨RR.out.1.kept (((Kept.refl (fun j => j = w.heap.size) w2).setCell (p := ⟨w.heap.size, 0, none⟩) (fun _ => rfl) _).setCell (p := ⟨w.heap.size, 1, none⟩) (fun _ => rfl) _) (fun j hj e => by subst e; exact rl_apart RR.out hj S2.out (by simp)), RR.out.2⟩)
  have R3 := hid (hp_set (hp_set R2.out (show w.heap.size + 1 + 1 ≠ w.heap.size by omega) (.slice ao2 n2 cap2) (p := ⟨w.heap.size, 0, none⟩)) (show w.heap.size + 1 + 1 ≠ w.heap.size by omega) (.bool m) (p := ⟨w.heap.size, 1, none⟩))
  have S3 := hid (set2 S2.out (.slice ao2 n2 cap2) (.bool m))
  clear r20 r21 fr RR B2 R2 S2
  generalize (w2.setCell ⟨w.heap.size, 0, none⟩ (.slice ao2 n2 cap2)).setCell ⟨w.heap.size, 1, none⟩ (.bool m) = W3 at K3 RL3 R3 S3 ⊢
  obtain ⟨d0, d1⟩ := cells2 S3.out
  obtain ⟨d2, d3⟩ := cells2 R3.out
  have fr : ∀ j, W3.frozen? ⟨w.heap.size + 1 + 1, j, none⟩ = false := fun j => free_of_block R3.out
  go_wp2_with fail
  refine bodyPost_ret (ret_agg34i Try.results12 rfl rfl (set2 R3.out _ _)) rfl ?_
  obtain ⟨F', f1, f2, f3⟩ := st_fin2 (w := w) Z1.out RL3.out K3.out (fun j hj => ⟨by omega, by subst hj; exact NF.out 0⟩) R3.out (NF.out 2) (by omega) (show Kept F w w1 from (Kept.ofBelow TB.out).mono (fun _ _ e => e.elim) |>.trans K1.out (fun _ _ e => e))
  exact ⟨_, rfl, F', f1, fun j hj => .inl (f2 j hj), f3⟩


set_option maxRecDepth 100000 in
set_option maxHeartbeats 4000000 in
theorem step_range (xv xn : Int) (key to oth : ByteArray) (p : Nat) (v : Value) (m : Bool) (l : List Pl) (F : Nat → Prop) (N : Nat) (w : World) (h : St w p v m l F) (hbd : Bd N l) (hN : N ≤ 300000) (hko : oth.size ≤ 50000) (hkt : to.size ≤ 50000) (hkk : key.size ≤ 50000) :
    Calls Try.prog 12 #[.pointer (some ⟨p, 0, none⟩), .agg #[v, .bool m], .agg #[.int .i64 5, .int .i64 xv, .int .i64 xn, .string key, .string to, .string oth]] w fun y w' => ∃ v', y = .returned (.tuple #[.agg #[v', .bool m], .bool true]) ∧ After p m (rgI ⟨5, xv, xn, key, to, oth⟩ m 201 key 0 l) F w v' w' := by
  obtain ⟨ao, cap, e, -, -⟩ := h.r.1.shape
  subst e
  have nF : ∀ k, ¬ F (w.heap.size + k) := fun k hk => by have := h.fl _ hk; omega
  have A1 := hid (ranged_any ⟨5, xv, xn, key, to, oth⟩ p (.slice ao l.length cap) m l F N _ (h.below (tW_below w (.slice ao l.length cap) m ⟨5, xv, xn, key, to, oth⟩)) hbd hN hko hkt hkk)
  have NF := hid nF
  have TB := hid (tW_below w (.slice ao l.length cap) m ⟨5, xv, xn, key, to, oth⟩)
  have WS := hid (tW_size w (.slice ao l.length cap) m ⟨5, xv, xn, key, to, oth⟩)
  have TR := hid (tW_r w (.slice ao l.length cap) m ⟨5, xv, xn, key, to, oth⟩)
  obtain ⟨y0, y1⟩ := cells2 (tW_s w (.slice ao l.length cap) m ⟨5, xv, xn, key, to, oth⟩)
  obtain ⟨x0, x1, x2, x3, x4, x5⟩ : (tW w (.slice ao l.length cap) m ⟨5, xv, xn, key, to, oth⟩).cell? ⟨w.heap.size + 1, 0, none⟩ = some (.int .i64 5) ∧ (tW w (.slice ao l.length cap) m ⟨5, xv, xn, key, to, oth⟩).cell? ⟨w.heap.size + 1, 1, none⟩ = some (.int .i64 xv) ∧ (tW w (.slice ao l.length cap) m ⟨5, xv, xn, key, to, oth⟩).cell? ⟨w.heap.size + 1, 2, none⟩ = some (.int .i64 xn) ∧ (tW w (.slice ao l.length cap) m ⟨5, xv, xn, key, to, oth⟩).cell? ⟨w.heap.size + 1, 3, none⟩ = some (.string key) ∧ (tW w (.slice ao l.length cap) m ⟨5, xv, xn, key, to, oth⟩).cell? ⟨w.heap.size + 1, 4, none⟩ = some (.string to) ∧ (tW w (.slice ao l.length cap) m ⟨5, xv, xn, key, to, oth⟩).cell? ⟨w.heap.size + 1, 5, none⟩ = some (.string oth) := cells6 (tW_x w (.slice ao l.length cap) m ⟨5, xv, xn, key, to, oth⟩)
  clear h hbd hN hko hkt hkk nF
  go_enter Try.func12, Try.ntmps12
  go_wp2_with (
    go_at_call 38
    refine A1.out.mono ?_
    rintro e w1 ⟨v', rfl, F', hS, hG, hK⟩
    obtain ⟨ao2, cap2, eu, -, -⟩ := hS.r.1.shape
    generalize (_ : List Pl).length = n2 at eu
    subst eu
    have S1 := hid hS
    have G1 := hid hG
    have K1 := hid hK
    have R1 := hid (hp_kept TR.out hK (NF.out 2))
    obtain ⟨d2, d3⟩ := cells2 R1.out
    have fr : ∀ j, w1.frozen? ⟨w.heap.size + 1 + 1, j, none⟩ = false := fun j => free_of_block R1.out
    clear hS hG hK x0 x1 x2 x3 x4 x5 y0 y1)
  refine bodyPost_ret (ret_agg34i Try.results12 rfl rfl (set2 R1.out _ _)) rfl ?_
  obtain ⟨F2, f1, f2, f3⟩ := st_fin (w := w) S1.out.z S1.out.r (Below.refl _ _) R1.out (fun hf => (G1.out _ hf).elim (NF.out 2) (fun q => by have := WS.out; omega)) (by omega) (show Kept F w w1 from (Kept.ofBelow TB.out).mono (fun _ _ e => e.elim) |>.trans K1.out (fun _ _ e => e))
  exact ⟨_, rfl, F2, f1, fun j hj => (G1.out j (f2 j hj)).imp (fun e => e) (fun q => by have := WS.out; omega), f3⟩


set_option maxRecDepth 100000 in
set_option maxHeartbeats 4000000 in
theorem step_shot (xv xn : Int) (key to oth : ByteArray) (p : Nat) (v : Value) (m : Bool) (l : List Pl) (F : Nat → Prop) (N : Nat) (w : World) (h : St w p v m l F) (hbd : Bd N l) (hN : N ≤ 300000) (hko : oth.size ≤ 50000) (_hkt : to.size ≤ 50000) (hkk : key.size ≤ 50000) :
    Calls Try.prog 12 #[.pointer (some ⟨p, 0, none⟩), .agg #[v, .bool m], .agg #[.int .i64 6, .int .i64 xv, .int .i64 xn, .string key, .string to, .string oth]] w fun y w' => ∃ v', y = .returned (.tuple #[.agg #[v', .bool m], .bool true]) ∧ After p m (shI ⟨6, xv, xn, key, to, oth⟩ m 201 key 0 l) F w v' w' := by
  obtain ⟨ao, cap, e, -, -⟩ := h.r.1.shape
  subst e
  have nF : ∀ k, ¬ F (w.heap.size + k) := fun k hk => by have := h.fl _ hk; omega
  have A1 := hid (shot_any ⟨6, xv, xn, key, to, oth⟩ p (.slice ao l.length cap) m l F N _ (h.below (tW_below w (.slice ao l.length cap) m ⟨6, xv, xn, key, to, oth⟩)) hbd hN hko hkk)
  have NF := hid nF
  have TB := hid (tW_below w (.slice ao l.length cap) m ⟨6, xv, xn, key, to, oth⟩)
  have WS := hid (tW_size w (.slice ao l.length cap) m ⟨6, xv, xn, key, to, oth⟩)
  have TR := hid (tW_r w (.slice ao l.length cap) m ⟨6, xv, xn, key, to, oth⟩)
  obtain ⟨y0, y1⟩ := cells2 (tW_s w (.slice ao l.length cap) m ⟨6, xv, xn, key, to, oth⟩)
  obtain ⟨x0, x1, x2, x3, x4, x5⟩ : (tW w (.slice ao l.length cap) m ⟨6, xv, xn, key, to, oth⟩).cell? ⟨w.heap.size + 1, 0, none⟩ = some (.int .i64 6) ∧ (tW w (.slice ao l.length cap) m ⟨6, xv, xn, key, to, oth⟩).cell? ⟨w.heap.size + 1, 1, none⟩ = some (.int .i64 xv) ∧ (tW w (.slice ao l.length cap) m ⟨6, xv, xn, key, to, oth⟩).cell? ⟨w.heap.size + 1, 2, none⟩ = some (.int .i64 xn) ∧ (tW w (.slice ao l.length cap) m ⟨6, xv, xn, key, to, oth⟩).cell? ⟨w.heap.size + 1, 3, none⟩ = some (.string key) ∧ (tW w (.slice ao l.length cap) m ⟨6, xv, xn, key, to, oth⟩).cell? ⟨w.heap.size + 1, 4, none⟩ = some (.string to) ∧ (tW w (.slice ao l.length cap) m ⟨6, xv, xn, key, to, oth⟩).cell? ⟨w.heap.size + 1, 5, none⟩ = some (.string oth) := cells6 (tW_x w (.slice ao l.length cap) m ⟨6, xv, xn, key, to, oth⟩)
  clear h hbd hN hko _hkt hkk nF
  go_enter Try.func12, Try.ntmps12
  go_wp2_with (
    go_at_call 39
    refine A1.out.mono ?_
    rintro e w1 ⟨v', rfl, F', hS, hG, hK⟩
    obtain ⟨ao2, cap2, eu, -, -⟩ := hS.r.1.shape
    generalize (_ : List Pl).length = n2 at eu
    subst eu
    have S1 := hid hS
    have G1 := hid hG
    have K1 := hid hK
    have R1 := hid (hp_kept TR.out hK (NF.out 2))
    obtain ⟨d2, d3⟩ := cells2 R1.out
    have fr : ∀ j, w1.frozen? ⟨w.heap.size + 1 + 1, j, none⟩ = false := fun j => free_of_block R1.out
    clear hS hG hK x0 x1 x2 x3 x4 x5 y0 y1)
  refine bodyPost_ret (ret_agg34i Try.results12 rfl rfl (set2 R1.out _ _)) rfl ?_
  obtain ⟨F2, f1, f2, f3⟩ := st_fin (w := w) S1.out.z S1.out.r (Below.refl _ _) R1.out (fun hf => (G1.out _ hf).elim (NF.out 2) (fun q => by have := WS.out; omega)) (by omega) (show Kept F w w1 from (Kept.ofBelow TB.out).mono (fun _ _ e => e.elim) |>.trans K1.out (fun _ _ e => e))
  exact ⟨_, rfl, F2, f1, fun j hj => (G1.out j (f2 j hj)).imp (fun e => e) (fun q => by have := WS.out; omega), f3⟩


set_option maxRecDepth 100000 in
set_option maxHeartbeats 4000000 in
theorem step_else (xk xv xn : Int) (key to oth : ByteArray) (p : Nat) (v : Value) (m : Bool) (l : List Pl) (F : Nat → Prop) (w : World) (h : St w p v m l F) (k1 : (xk == 1) = false) (k2 : (xk == 2) = false) (k3 : (xk == 3) = false) (k4 : (xk == 4) = false) (k5 : (xk == 5) = false) (k6 : (xk == 6) = false) :
    Calls Try.prog 12 #[.pointer (some ⟨p, 0, none⟩), .agg #[v, .bool m], .agg #[.int .i64 xk, .int .i64 xv, .int .i64 xn, .string key, .string to, .string oth]] w fun y w' => ∃ v', y = .returned (.tuple #[.agg #[v', .bool m], .bool true]) ∧ After p m l F w v' w' := by
  obtain ⟨ao, cap, e, -, -⟩ := h.r.1.shape
  subst e
  have nF : ∀ k, ¬ F (w.heap.size + k) := fun k hk => by have := h.fl _ hk; omega
  have H := hid h
  have NF := hid nF
  have TB := hid (tW_below w (.slice ao l.length cap) m ⟨xk, xv, xn, key, to, oth⟩)
  have TR := hid (tW_r w (.slice ao l.length cap) m ⟨xk, xv, xn, key, to, oth⟩)
  obtain ⟨y0, y1⟩ := cells2 (tW_s w (.slice ao l.length cap) m ⟨xk, xv, xn, key, to, oth⟩)
  obtain ⟨x0, x1, x2, x3, x4, x5⟩ : (tW w (.slice ao l.length cap) m ⟨xk, xv, xn, key, to, oth⟩).cell? ⟨w.heap.size + 1, 0, none⟩ = some (.int .i64 xk) ∧ (tW w (.slice ao l.length cap) m ⟨xk, xv, xn, key, to, oth⟩).cell? ⟨w.heap.size + 1, 1, none⟩ = some (.int .i64 xv) ∧ (tW w (.slice ao l.length cap) m ⟨xk, xv, xn, key, to, oth⟩).cell? ⟨w.heap.size + 1, 2, none⟩ = some (.int .i64 xn) ∧ (tW w (.slice ao l.length cap) m ⟨xk, xv, xn, key, to, oth⟩).cell? ⟨w.heap.size + 1, 3, none⟩ = some (.string key) ∧ (tW w (.slice ao l.length cap) m ⟨xk, xv, xn, key, to, oth⟩).cell? ⟨w.heap.size + 1, 4, none⟩ = some (.string to) ∧ (tW w (.slice ao l.length cap) m ⟨xk, xv, xn, key, to, oth⟩).cell? ⟨w.heap.size + 1, 5, none⟩ = some (.string oth) := cells6 (tW_x w (.slice ao l.length cap) m ⟨xk, xv, xn, key, to, oth⟩)
  obtain ⟨d2, d3⟩ := cells2 TR.out
  have fr : ∀ j, (tW w (.slice ao l.length cap) m ⟨xk, xv, xn, key, to, oth⟩).frozen? ⟨w.heap.size + 1 + 1, j, none⟩ = false := fun j => free_of_block TR.out
  clear h nF
  go_enter Try.func12, Try.ntmps12
  go_wp2_with fail
  obtain ⟨-, -, q3, qb⟩ := three w (.cells #[.slice ao l.length cap, .bool m] 34) (.cells #[.int .i64 xk, .int .i64 xv, .int .i64 xn, .string key, .string to, .string oth] 36) (.cells #[.slice ao l.length cap, .bool m] 34)
  refine bodyPost_ret (ret_agg34i Try.results12 rfl rfl q3) rfl ?_
  exact ⟨_, rfl, F, H.out.below qb, fun j hj => .inl hj, (Kept.ofBelow qb).mono (fun _ _ e => e.elim)⟩

end Go.Proofs.Ythjggbcppgbdoaa

namespace Go.Proofs.Ythjggbcppgbdoaa
open Go.RowKit


set_option maxRecDepth 100000 in
set_option maxHeartbeats 4000000 in
theorem step_mark (xv xn : Int) (key to oth : ByteArray) (p : Nat) (v : Value) (m m' : Bool) (E : Int) (l l' : List Pl) (F : Nat → Prop) (w : World) (h : St w p v m l F)
    (hD : ∀ W, Below w.heap.size w W → Calls Try.prog 36 #[.agg #[v, .bool m]] W fun x w' => ∃ v', x = .returned (.tuple #[.agg #[v', .bool m'], .int .i64 E]) ∧ RL w' v' l' ∧ Below W.heap.size W w')
    (hP : ∀ (G : Nat → Prop) W, ZV W p l m G → Calls Try.prog 26 #[.pointer (some ⟨p, 0, none⟩)] W fun x w' => x = .returned (.int .i64 E) ∧ ZV w' p l' m' G ∧ Kept G W w') :
    Calls Try.prog 12 #[.pointer (some ⟨p, 0, none⟩), .agg #[v, .bool m], .agg #[.int .i64 3, .int .i64 xv, .int .i64 xn, .string key, .string to, .string oth]] w fun y w' => ∃ v', y = .returned (.tuple #[.agg #[v', .bool m'], .bool true]) ∧ After p m' l' F w v' w' := by
  obtain ⟨ao, cap, e, -, -⟩ := h.r.1.shape
  subst e
  have nF : ∀ k, ¬ F (w.heap.size + k) := fun k hk => by have := h.fl _ hk; omega
  have A1 := hid (hD _ (tW_below w (.slice ao l.length cap) m ⟨3, xv, xn, key, to, oth⟩))
  have PP := hid hP
  have H := hid h
  have NF := hid nF
  have TB := hid (tW_below w (.slice ao l.length cap) m ⟨3, xv, xn, key, to, oth⟩)
  have WS := hid (tW_size w (.slice ao l.length cap) m ⟨3, xv, xn, key, to, oth⟩)
  have TR := hid (tW_r w (.slice ao l.length cap) m ⟨3, xv, xn, key, to, oth⟩)
  obtain ⟨y0, y1⟩ := cells2 (tW_s w (.slice ao l.length cap) m ⟨3, xv, xn, key, to, oth⟩)
  obtain ⟨x0, x1, x2, x3, x4, x5⟩ : (tW w (.slice ao l.length cap) m ⟨3, xv, xn, key, to, oth⟩).cell? ⟨w.heap.size + 1, 0, none⟩ = some (.int .i64 3) ∧ (tW w (.slice ao l.length cap) m ⟨3, xv, xn, key, to, oth⟩).cell? ⟨w.heap.size + 1, 1, none⟩ = some (.int .i64 xv) ∧ (tW w (.slice ao l.length cap) m ⟨3, xv, xn, key, to, oth⟩).cell? ⟨w.heap.size + 1, 2, none⟩ = some (.int .i64 xn) ∧ (tW w (.slice ao l.length cap) m ⟨3, xv, xn, key, to, oth⟩).cell? ⟨w.heap.size + 1, 3, none⟩ = some (.string key) ∧ (tW w (.slice ao l.length cap) m ⟨3, xv, xn, key, to, oth⟩).cell? ⟨w.heap.size + 1, 4, none⟩ = some (.string to) ∧ (tW w (.slice ao l.length cap) m ⟨3, xv, xn, key, to, oth⟩).cell? ⟨w.heap.size + 1, 5, none⟩ = some (.string oth) := cells6 (tW_x w (.slice ao l.length cap) m ⟨3, xv, xn, key, to, oth⟩)
  clear h nF hD hP
  go_enter Try.func12, Try.ntmps12
  go_upto_region 10 with (
    go_at_call 36
    refine A1.out.mono ?_
    rintro e w1 ⟨v', rfl, hr, hb⟩
    obtain ⟨ao2, cap2, eu, -, -⟩ := hr.1.shape
    generalize (_ : List Pl).length = n2 at eu
    subst eu
    have R1 := hid hr
    have B1 := hid hb
    clear hr hb x0 x1 x2 x3 x4 x5 y0 y1)
  have BA := hid (show Below w.heap.size w (w1.alloc (.cells #[.slice ao2 n2 cap2, .bool m'] 34)) from below_on (below_on TB.out B1.out) (below_new _ _))
  have C1 := hid (show (w1.alloc (.cells #[.slice ao2 n2 cap2, .bool m'] 34)).heap[w1.heap.size]? = some (.cells #[.slice ao2 n2 cap2, .bool m'] 34 (0, 0)) from hp_new _ _)
  have R2 := hid (show (w1.alloc (.cells #[.slice ao2 n2 cap2, .bool m'] 34)).heap[w.heap.size + 1 + 1]? = some (.cells #[.slice none 0 0, .bool false] 34 (0, 0)) from hp_alloc (hp_below TR.out B1.out (hp_lt TR.out)) _)
  have L2 := hid (show RL (w1.alloc (.cells #[.slice ao2 n2 cap2, .bool m'] 34)) (.slice ao2 n2 cap2) l' from R1.out.below (below_new _ _))
  have n1 : w.heap.size ≤ w1.heap.size := Nat.le_trans TB.out.size B1.out.size
  have N1 := hid n1
  have nrc : w.heap.size + 1 + 1 ≠ w1.heap.size := by have := WS.out; have := B1.out.size; omega
  clear n1 R1 TR
  generalize w1.alloc (.cells #[.slice ao2 n2 cap2, .bool m'] 34) = W9 at BA C1 R2 L2 ⊢
  obtain ⟨c0, c1⟩ := cells2 C1.out
  obtain ⟨d0, d1⟩ := cells2 R2.out
  obtain ⟨F0, f01, f02, f03⟩ := (H.out.z.below BA.out).apart
  have Z0 := hid f02
  have M0 := hid f01
  have AP := hid (show ∀ j, (Value.slice ao2 n2 cap2).ownBlock = some j → ¬ F0 j from fun j hj hf => by obtain ⟨cs, T, hb, hs⟩ := f03 j hf; exact rl_apart L2.out hj hb hs)
  clear f01 f02 f03
  have FIN := hid (show ∀ w2 w3, ZV w2 p l' m' F0 → Kept F0 W9 w2 → Below w2.heap.size w2 w3 → w3.heap[w.heap.size + 1 + 1]? = some (.cells #[.slice none 0 0, .bool false] 34 (0, 0)) ∧ After p m' l' F w (.slice ao2 n2 cap2) ((w3.setCell ⟨w.heap.size + 1 + 1, 0, none⟩ (.slice ao2 n2 cap2)).setCell ⟨w.heap.size + 1 + 1, 1, none⟩ (.bool m')) from fun w2 w3 hz hk hb => by
    have hx := hp_below (hp_kept R2.out hk (fun e => NF.out 2 (M0.out _ e))) hb (Nat.lt_of_lt_of_le (hp_lt R2.out) hk.size)
    have hr : RL w2 (.slice ao2 n2 cap2) l' := ⟨L2.out.1.kept hk (AP.out), L2.out.2⟩
    refine ⟨hx, ?_⟩
    obtain ⟨F2, g1, g2, g3⟩ := st_fin (w := w) hz (hr.below hb) hb hx (fun e => NF.out 2 (M0.out _ e)) (by omega) (show Kept F w w2 from (Kept.ofBelow BA.out).mono (fun _ _ e => e.elim) |>.trans hk (fun _ _ e => M0.out _ e))
    exact ⟨F2, g1, fun j hj => .inl (M0.out _ (g2 j hj)), g3⟩)
  have P1 := hid (show ∀ W, Below W9.heap.size W9 W → _ from fun W hb => PP.out F0 W (Z0.out.below hb))
  have HC := hid (show ∀ w2, Kept F0 W9 w2 → w2.heap[w1.heap.size]? = some (.cells #[.slice ao2 n2 cap2, .bool m'] 34 (0, 0)) ∧ w2.heap[w.heap.size + 1 + 1]? = some (.cells #[.slice none 0 0, .bool false] 34 (0, 0)) from fun w2 hk => ⟨hp_kept C1.out hk (fun hf => by have := H.out.fl _ (M0.out _ hf); have := N1.out; omega), hp_kept R2.out hk (fun e => NF.out 2 (M0.out _ e))⟩)
  have fr0 : ∀ j, W9.frozen? ⟨w.heap.size + 1 + 1, j, none⟩ = false := fun j => free_of_block R2.out
  clear PP A1 TB BA C1 R2 L2 B1 WS H NF N1 Z0 M0 AP
  go_region_with (
    go_at_call 26
    refine (P1.out W9.drew (Below.refl _ _).drew).mono ?_
    rintro e w2 ⟨rfl, hz, hk⟩
    have K2 := hid (show Kept F0 W9 w2 from hk.undrew)
    have Z2 := hid hz
    obtain ⟨e1, e2⟩ := HC.out w2 K2.out
    obtain ⟨c20, c21⟩ := cells2 e1
    obtain ⟨d20, d21⟩ := cells2 e2
    have fr : ∀ j, w2.frozen? ⟨w.heap.size + 1 + 1, j, none⟩ = false := fun j => free_of_block e2
    clear hz hk e1 e2)
  all_goals
    go_wp2
    obtain ⟨g1, g2⟩ := FIN.out w2 w2 Z2.out K2.out (Below.refl _ _)
    refine bodyPost_ret (ret_agg34i Try.results12 rfl rfl (set2 g1 _ _)) rfl ?_
    exact ⟨_, rfl, g2⟩


set_option maxRecDepth 100000 in
set_option maxHeartbeats 4000000 in
theorem step_done (xv xn : Int) (key to oth : ByteArray) (p : Nat) (v : Value) (m m' : Bool) (E : Int) (l l' : List Pl) (F : Nat → Prop) (w : World) (h : St w p v m l F)
    (hD : ∀ W, Below w.heap.size w W → Calls Try.prog 37 #[.agg #[v, .bool m]] W fun x w' => ∃ v', x = .returned (.tuple #[.agg #[v', .bool m'], .int .i64 E]) ∧ RL w' v' l' ∧ Below W.heap.size W w')
    (hP : ∀ (G : Nat → Prop) W, ZV W p l m G → Calls Try.prog 27 #[.pointer (some ⟨p, 0, none⟩)] W fun x w' => x = .returned (.int .i64 E) ∧ ZV w' p l' m' G ∧ Kept G W w') :
    Calls Try.prog 12 #[.pointer (some ⟨p, 0, none⟩), .agg #[v, .bool m], .agg #[.int .i64 4, .int .i64 xv, .int .i64 xn, .string key, .string to, .string oth]] w fun y w' => ∃ v', y = .returned (.tuple #[.agg #[v', .bool m'], .bool true]) ∧ After p m' l' F w v' w' := by
  obtain ⟨ao, cap, e, -, -⟩ := h.r.1.shape
  subst e
  have nF : ∀ k, ¬ F (w.heap.size + k) := fun k hk => by have := h.fl _ hk; omega
  have A1 := hid (hD _ (tW_below w (.slice ao l.length cap) m ⟨4, xv, xn, key, to, oth⟩))
  have PP := hid hP
  have H := hid h
  have NF := hid nF
  have TB := hid (tW_below w (.slice ao l.length cap) m ⟨4, xv, xn, key, to, oth⟩)
  have WS := hid (tW_size w (.slice ao l.length cap) m ⟨4, xv, xn, key, to, oth⟩)
  have TR := hid (tW_r w (.slice ao l.length cap) m ⟨4, xv, xn, key, to, oth⟩)
  obtain ⟨y0, y1⟩ := cells2 (tW_s w (.slice ao l.length cap) m ⟨4, xv, xn, key, to, oth⟩)
  obtain ⟨x0, x1, x2, x3, x4, x5⟩ : (tW w (.slice ao l.length cap) m ⟨4, xv, xn, key, to, oth⟩).cell? ⟨w.heap.size + 1, 0, none⟩ = some (.int .i64 4) ∧ (tW w (.slice ao l.length cap) m ⟨4, xv, xn, key, to, oth⟩).cell? ⟨w.heap.size + 1, 1, none⟩ = some (.int .i64 xv) ∧ (tW w (.slice ao l.length cap) m ⟨4, xv, xn, key, to, oth⟩).cell? ⟨w.heap.size + 1, 2, none⟩ = some (.int .i64 xn) ∧ (tW w (.slice ao l.length cap) m ⟨4, xv, xn, key, to, oth⟩).cell? ⟨w.heap.size + 1, 3, none⟩ = some (.string key) ∧ (tW w (.slice ao l.length cap) m ⟨4, xv, xn, key, to, oth⟩).cell? ⟨w.heap.size + 1, 4, none⟩ = some (.string to) ∧ (tW w (.slice ao l.length cap) m ⟨4, xv, xn, key, to, oth⟩).cell? ⟨w.heap.size + 1, 5, none⟩ = some (.string oth) := cells6 (tW_x w (.slice ao l.length cap) m ⟨4, xv, xn, key, to, oth⟩)
  clear h nF hD hP
  go_enter Try.func12, Try.ntmps12
  go_upto_region 13 with (
    go_at_call 37
    refine A1.out.mono ?_
    rintro e w1 ⟨v', rfl, hr, hb⟩
    obtain ⟨ao2, cap2, eu, -, -⟩ := hr.1.shape
    generalize (_ : List Pl).length = n2 at eu
    subst eu
    have R1 := hid hr
    have B1 := hid hb
    clear hr hb x0 x1 x2 x3 x4 x5 y0 y1)
  have BA := hid (show Below w.heap.size w (w1.alloc (.cells #[.slice ao2 n2 cap2, .bool m'] 34)) from below_on (below_on TB.out B1.out) (below_new _ _))
  have C1 := hid (show (w1.alloc (.cells #[.slice ao2 n2 cap2, .bool m'] 34)).heap[w1.heap.size]? = some (.cells #[.slice ao2 n2 cap2, .bool m'] 34 (0, 0)) from hp_new _ _)
  have R2 := hid (show (w1.alloc (.cells #[.slice ao2 n2 cap2, .bool m'] 34)).heap[w.heap.size + 1 + 1]? = some (.cells #[.slice none 0 0, .bool false] 34 (0, 0)) from hp_alloc (hp_below TR.out B1.out (hp_lt TR.out)) _)
  have L2 := hid (show RL (w1.alloc (.cells #[.slice ao2 n2 cap2, .bool m'] 34)) (.slice ao2 n2 cap2) l' from R1.out.below (below_new _ _))
  have n1 : w.heap.size ≤ w1.heap.size := Nat.le_trans TB.out.size B1.out.size
  have N1 := hid n1
  have nrc : w.heap.size + 1 + 1 ≠ w1.heap.size := by have := WS.out; have := B1.out.size; omega
  clear n1 R1 TR
  generalize w1.alloc (.cells #[.slice ao2 n2 cap2, .bool m'] 34) = W9 at BA C1 R2 L2 ⊢
  obtain ⟨c0, c1⟩ := cells2 C1.out
  obtain ⟨d0, d1⟩ := cells2 R2.out
  obtain ⟨F0, f01, f02, f03⟩ := (H.out.z.below BA.out).apart
  have Z0 := hid f02
  have M0 := hid f01
  have AP := hid (show ∀ j, (Value.slice ao2 n2 cap2).ownBlock = some j → ¬ F0 j from fun j hj hf => by obtain ⟨cs, T, hb, hs⟩ := f03 j hf; exact rl_apart L2.out hj hb hs)
  clear f01 f02 f03
  have FIN := hid (show ∀ w2 w3, ZV w2 p l' m' F0 → Kept F0 W9 w2 → Below w2.heap.size w2 w3 → w3.heap[w.heap.size + 1 + 1]? = some (.cells #[.slice none 0 0, .bool false] 34 (0, 0)) ∧ After p m' l' F w (.slice ao2 n2 cap2) ((w3.setCell ⟨w.heap.size + 1 + 1, 0, none⟩ (.slice ao2 n2 cap2)).setCell ⟨w.heap.size + 1 + 1, 1, none⟩ (.bool m')) from fun w2 w3 hz hk hb => by
    have hx := hp_below (hp_kept R2.out hk (fun e => NF.out 2 (M0.out _ e))) hb (Nat.lt_of_lt_of_le (hp_lt R2.out) hk.size)
    have hr : RL w2 (.slice ao2 n2 cap2) l' := ⟨L2.out.1.kept hk (AP.out), L2.out.2⟩
    refine ⟨hx, ?_⟩
    obtain ⟨F2, g1, g2, g3⟩ := st_fin (w := w) hz (hr.below hb) hb hx (fun e => NF.out 2 (M0.out _ e)) (by omega) (show Kept F w w2 from (Kept.ofBelow BA.out).mono (fun _ _ e => e.elim) |>.trans hk (fun _ _ e => M0.out _ e))
    exact ⟨F2, g1, fun j hj => .inl (M0.out _ (g2 j hj)), g3⟩)
  have P1 := hid (show ∀ W, Below W9.heap.size W9 W → _ from fun W hb => PP.out F0 W (Z0.out.below hb))
  have HC := hid (show ∀ w2, Kept F0 W9 w2 → w2.heap[w1.heap.size]? = some (.cells #[.slice ao2 n2 cap2, .bool m'] 34 (0, 0)) ∧ w2.heap[w.heap.size + 1 + 1]? = some (.cells #[.slice none 0 0, .bool false] 34 (0, 0)) from fun w2 hk => ⟨hp_kept C1.out hk (fun hf => by have := H.out.fl _ (M0.out _ hf); have := N1.out; omega), hp_kept R2.out hk (fun e => NF.out 2 (M0.out _ e))⟩)
  have fr0 : ∀ j, W9.frozen? ⟨w.heap.size + 1 + 1, j, none⟩ = false := fun j => free_of_block R2.out
  clear PP A1 TB BA C1 R2 L2 B1 WS H NF N1 Z0 M0 AP
  go_region_with (
    go_at_call 27
    refine (P1.out W9.drew (Below.refl _ _).drew).mono ?_
    rintro e w2 ⟨rfl, hz, hk⟩
    have K2 := hid (show Kept F0 W9 w2 from hk.undrew)
    have Z2 := hid hz
    obtain ⟨e1, e2⟩ := HC.out w2 K2.out
    obtain ⟨c20, c21⟩ := cells2 e1
    obtain ⟨d20, d21⟩ := cells2 e2
    have fr : ∀ j, w2.frozen? ⟨w.heap.size + 1 + 1, j, none⟩ = false := fun j => free_of_block e2
    clear hz hk e1 e2)
  all_goals
    go_wp2
    obtain ⟨g1, g2⟩ := FIN.out w2 w2 Z2.out K2.out (Below.refl _ _)
    refine bodyPost_ret (ret_agg34i Try.results12 rfl rfl (set2 g1 _ _)) rfl ?_
    exact ⟨_, rfl, g2⟩

end Go.Proofs.Ythjggbcppgbdoaa

namespace Go.Proofs.Ythjggbcppgbdoaa
open Go.RowKit

theorem calm_filter {l : List Pl} (h : ∀ e ∈ l, keepP e = true) : l.filter keepP = l := List.filter_eq_self.2 h

/-- A step of the law, of any kind: both go alike. -/
theorem zstep_any (x : Sp) (p : Nat) (v : Value) (m : Bool) (l : List Pl) (F : Nat → Prop) (N : Nat) (w : World) (h : St w p v m l F) (hbd : Bd N l) (hN : N ≤ 300000) (hko : x.other.size ≤ 50000) (hkt : x.to.size ≤ 50000) (hkk : x.key.size ≤ 50000) :
    Calls Try.prog 12 #[.pointer (some ⟨p, 0, none⟩), .agg #[v, .bool m], x.agg] w fun y w' => ∃ v', y = .returned (.tuple #[.agg #[v', .bool (stepL x l m).2], .bool true]) ∧ After p (stepL x l m).2 (stepL x l m).1 F w v' w' := by
  obtain ⟨xk, xv, xn, key, to, oth⟩ := x
  simp only at hko hkt hkk
  have hn := hbd.n
  by_cases h1 : xk = 1
  · subst h1
    exact step_put xv xn key to oth p v m l F w h (by omega) (by omega)
  by_cases h2 : xk = 2
  · subst h2
    exact step_del xv xn key to oth p v m l F w h (by omega)
  by_cases h3 : xk = 3
  · subst h3
    cases m
    · have hc := calm_filter (h.z.calm rfl)
      refine step_mark xv xn key to oth p v false true 0 l (l.map mkE) F w h (fun W hb => ?_) (fun G W hz => vmark p l G W hz)
      have := rmark_idle v l W (h.r.below hb) (by omega)
      rw [hc] at this
      exact this
    · refine step_mark xv xn key to oth p v true true 18 l l F w h (fun W hb => ?_) (fun G W hz => ?_)
      · refine (rmark_busy v l W (h.r.below hb)).mono ?_
        rintro y w' ⟨rfl, hb'⟩
        exact ⟨v, rfl, (h.r.below hb).below hb', hb'⟩
      · refine (vbusy p l G W hz).mono ?_
        rintro y w' ⟨rfl, rfl⟩
        exact ⟨rfl, hz, Kept.refl _ _⟩
  by_cases h4 : xk = 4
  · subst h4
    cases m
    · refine step_done xv xn key to oth p v false false 19 l l F w h (fun W hb => ?_) (fun G W hz => ?_)
      · refine (rdone_idle v l W (h.r.below hb)).mono ?_
        rintro y w' ⟨rfl, hb'⟩
        exact ⟨v, rfl, (h.r.below hb).below hb', hb'⟩
      · refine (vidle p l G W hz).mono ?_
        rintro y w' ⟨rfl, rfl⟩
        exact ⟨rfl, hz, Kept.refl _ _⟩
    · exact step_done xv xn key to oth p v true false 0 l (l.filter keepP) F w h (fun W hb => rdone_busy v l W (h.r.below hb) (by omega)) (fun G W hz => vdone p l G W hz (by omega))
  by_cases h5 : xk = 5
  · subst h5
    exact step_range xv xn key to oth p v m l F N w h hbd hN hko hkt hkk
  by_cases h6 : xk = 6
  · subst h6
    exact step_shot xv xn key to oth p v m l F N w h hbd hN hko hkt hkk
  have e : stepL ⟨xk, xv, xn, key, to, oth⟩ l m = (l, m) := by
    unfold stepL
    rw [if_neg h1, if_neg h2, if_neg h3, if_neg h4, if_neg h5, if_neg h6]
  rw [e]
  exact step_else xk xv xn key to oth p v m l F w h (by simpa using h1) (by simpa using h2) (by simpa using h3) (by simpa using h4) (by simpa using h5) (by simpa using h6)

end Go.Proofs.Ythjggbcppgbdoaa
