import Derived.Test.YthcoigbkdbkojaaGreatK06
import Derived.Test.YthcoigbkdbkojaaGreatK02
import Derived.Test.YthcoigbkdbkojaaGreatK03
import Derived.ProofKit
import Derived.OpenShut
import Derived.Deep.Slices
import Derived.Deep.AppendSrc
namespace Go.Proofs.YthcoigbkdbkojaaGreat.V
open Go.RowKit

/-- A new slot. -/
abbrev s0 : Sd := ⟨zPd, zPd, false, false, false, true⟩
abbrev s0B : Obj := .cells #[.int .i64 0, .int .i64 0, .string ⟨#[]⟩, .int .i64 0, .int .i64 0, .string ⟨#[]⟩, .bool false, .bool false, .int .i64 0, .int .i64 1] 110

/-- A key with a new slot is in the table. -/
theorem ZS.put {w w1 w3 : World} {p : Nat} {t t' : Tr} {f : Nat → Sd} {c : Int} {m : Bool} {key : ByteArray} (h : ZS w p t f c m) (hb : Below w.heap.size w w1) (hp : PutP (.int .i64 c, .bool m) (w1.alloc s0B) w3 p t t' key (.pointer (some ⟨w1.heap.size, 0, none⟩))) (hq : ent key t.toL = none) (hk : key.size ≤ 281474976710656) :
    ZS w3 p t' (updF f w1.heap.size s0) c m ∧ (∃ n, t'.toL = ins (n, key, .pointer (some ⟨w1.heap.size, 0, none⟩)) t.toL) ∧ Kept (fun j => j = p ∨ j ∈ t.bs) w w3 ∧ ∀ i ∈ t'.bs, i ∈ t.bs ∨ w.heap.size ≤ i := by
  have hz := h.below hb
  have hz2 := hz.below (below_new w1 s0B)
  have hnew : (w1.alloc s0B).heap[w1.heap.size]? = some s0B := hp_new w1 _
  have hn := tb_not hz2.tb hnew (by decide)
  have hs3 : Sl w3 w1.heap.size s0 := hp_kept hnew hp.kp (fun e => e.elim hn.1 hn.2)
  obtain ⟨mb, hl⟩ : ∃ n, t'.toL = ins (n, key, .pointer (some ⟨w1.heap.size, 0, none⟩)) t.toL := by
    rcases hp.ls with ⟨e, he, -⟩ | ⟨-, n, hl⟩
    · rw [hq] at he; cases he
    · exact ⟨n, hl⟩
  have hperm := ins_perm (mb, key, Value.pointer (some ⟨w1.heap.size, 0, none⟩)) t.toL
  have hlt : ∀ e ∈ t.toL, ∀ b, e.2.2 = .pointer (some ⟨b, 0, none⟩) → b < w1.heap.size := fun e he b hbe => by
    obtain ⟨b0, q1, q2⟩ := hz.sl e he
    rw [hbe] at q1
    injection q1 with q1
    injection q1 with q1
    injection q1 with q1
    subst q1
    exact hp_lt q2
  refine ⟨⟨hp.tb, fun e he => ?_, ?_, fun e he => ?_⟩, ⟨mb, hl⟩, ((Kept.ofBelow (below_on hb (below_new w1 s0B))).mono (fun _ _ e => e.elim)).trans hp.kp (fun _ _ e => e), fun i hi => (hp.nw i hi).imp id (fun h => by have := hb.size; simp at h; omega)⟩
  · rw [hl] at he
    rcases List.mem_cons.1 (hperm.mem_iff.1 he) with rfl | h1
    · exact ⟨_, rfl, by unfold updF; rw [if_pos rfl]; exact hs3⟩
    · obtain ⟨b, q1, q2⟩ := hz2.sl e h1
      have hb2 := hlt e h1 b q1
      refine ⟨b, q1, ?_⟩
      unfold updF
      rw [if_neg (by omega)]
      have hnb := tb_not hz2.tb q2 (by decide)
      exact hp_kept q2 hp.kp (fun e => e.elim hnb.1 hnb.2)
  · rw [hl]
    refine ((hperm.map (fun e => e.2.2)).nodup_iff).2 ?_
    rw [List.map_cons, List.nodup_cons]
    refine ⟨fun hm => ?_, h.nd⟩
    obtain ⟨e, he, hv⟩ := List.mem_map.1 hm
    have := hlt e he w1.heap.size hv
    omega
  · rw [hl] at he
    rcases List.mem_cons.1 (hperm.mem_iff.1 he) with rfl | h1
    · exact hk
    · exact h.sh e h1

/-- What Put of a key without a slot leaves. -/
def SputN (w : World) (p : Nat) (t : Tr) (f : Nat → Sd) (c : Int) (m : Bool) (key : ByteArray) (v : Pd) : Ending → World → Prop := fun x w' => x = .returned (.tuple #[]) ∧ ∃ t' b n, w.heap.size ≤ b ∧ t'.toL = ins (n, key, .pointer (some ⟨b, 0, none⟩)) t.toL ∧ ZS w' p t' (updF (updF f b s0) b (s0.lay v true)) (c + 1) m ∧ Kept (fun j => j = p ∨ j ∈ t.bs) w w' ∧ ∀ i ∈ t'.bs, i ∈ t.bs ∨ w.heap.size ≤ i

set_option maxRecDepth 100000 in
set_option maxHeartbeats 4000000 in
theorem sput_new (p : Nat) (key : ByteArray) (v : Pd) (t : Tr) (f : Nat → Sd) (c : Int) (m : Bool) (w : World) (h : ZS w p t f c m) (hc : 0 ≤ c ∧ c ≤ 1000000) (hn : t.n ≤ 600000) (hk : key.size ≤ 281474976710656) (hq : ent key t.toL = none) :
    Calls Tryz.prog 26 #[.pointer (some ⟨p, 0, none⟩), .string key, v.agg] w (SputN w p t f c m key v) := by
  have hB1 := hid (hp_new w (vB v))
  have hB2 := hid (below_new w (vB v))
  have AT := hid (sat_any (some ⟨p, 0, none⟩) key t (w.alloc (vB v)) none false (.inr ⟨p, _, rfl, h.tb.below (below_new w (vB v))⟩) (by rw [getV, hq]))
  have hvb : ∀ {W : World} {c' : Int} {t' : Tr} {f' : Nat → Sd}, ZS W p t' f' c' m → W.heap[w.heap.size]? = some (vB v) → w.heap.size ≠ p ∧ w.heap.size ∉ t'.bs := fun hz hy => tb_not hz.tb hy (by decide)
  have PU := hid (show ∀ w1, Below w.heap.size w w1 → w1.heap[w.heap.size]? = some (vB v) → Calls Tryz.prog 45 #[.pointer (some ⟨p, 0, none⟩), .string key, .pointer (some ⟨w1.heap.size, 0, none⟩)] (w1.alloc s0B) fun x w' => ∃ t' u, x = .returned u ∧ Hid (ZS w' p t' (updF f w1.heap.size s0) c m ∧ (∃ n, t'.toL = ins (n, key, .pointer (some ⟨w1.heap.size, 0, none⟩)) t.toL) ∧ Kept (fun j => j = p ∨ j ∈ t.bs) w w' ∧ (∀ i ∈ t'.bs, i ∈ t.bs ∨ w.heap.size ≤ i) ∧ w'.heap[w.heap.size]? = some (vB v)) from fun w1 hb hy => by
    refine (put_any p key (some ⟨w1.heap.size, 0, none⟩) t (w1.alloc s0B) ((h.below hb).below (below_new w1 s0B)).tb hn hk).mono ?_
    rintro x w' ⟨t', rfl, hp⟩
    have hy2 := hp_alloc hy s0B
    have hno := hvb ((h.below hb).below (below_new w1 s0B)) hy2
    obtain ⟨q1, q2, q3, q4⟩ := h.put hb hp hq hk
    exact ⟨t', _, rfl, hid ⟨q1, q2, q3, q4, hp_kept hy2 hp.kp (fun e => e.elim hno.1 hno.2)⟩⟩)
  have hmem : ∀ {t' : Tr} {n b : Nat}, t'.toL = ins (n, key, Value.pointer (some ⟨b, 0, none⟩)) t.toL → (n, key, Value.pointer (some ⟨b, 0, none⟩)) ∈ t'.toL := fun hl => by rw [hl]; exact (ins_perm _ _).mem_iff.2 (by simp)
  have RD := hid (show ∀ (W : World) (t' : Tr) (b : Nat), ZS W p t' (updF f b s0) c m → (∃ n, t'.toL = ins (n, key, .pointer (some ⟨b, 0, none⟩)) t.toL) → Calls Tryz.prog 46 #[.pointer (some ⟨b, 0, none⟩)] W fun x w' => x = .returned (.tuple #[.agg #[.int .i64 0, .int .i64 0, .string ⟨#[]⟩], .bool false]) ∧ Hid (ZS w' p t' (updF f b s0) c m ∧ Below W.heap.size W w') from fun W t' b hz hl => by
    obtain ⟨n, hl⟩ := hl
    obtain ⟨b0, q1, q2⟩ := hz.sl _ (hmem hl)
    have hbb : b0 = b := by injection q1 with q1; injection q1 with q1; injection q1 with q1; exact q1.symm
    subst hbb
    have q3 : Sl W b0 s0 := by have := q2; unfold updF at this; rw [if_pos rfl] at this; exact this
    refine (read_any b0 s0 W q3).mono ?_
    rintro x w' ⟨rfl, hb⟩
    exact ⟨rfl, hid ⟨hz.below hb, hb⟩⟩)
  have LY := hid (show ∀ (W : World) (t' : Tr) (b : Nat) c', ZS W p t' (updF f b s0) c' m → (∃ n, t'.toL = ins (n, key, .pointer (some ⟨b, 0, none⟩)) t.toL) → Calls Tryz.prog 47 #[.pointer (some ⟨b, 0, none⟩), v.agg, .bool true] W fun x w' => x = .returned (.tuple #[]) ∧ Hid (ZS w' p t' (updF (updF f b s0) b (s0.lay v true)) c' m ∧ Kept (fun j => j = b) W w') from fun W t' b c' hz hl => by
    obtain ⟨n, hl⟩ := hl
    obtain ⟨b0, q1, q2⟩ := hz.sl _ (hmem hl)
    have hbb : b0 = b := by injection q1 with q1; injection q1 with q1; injection q1 with q1; exact q1.symm
    subst hbb
    have q3 : Sl W b0 s0 := by have := q2; unfold updF at this; rw [if_pos rfl] at this; exact this
    refine (lay_any b0 s0 v true W q3).mono ?_
    rintro x w' ⟨rfl, h1, h2⟩
    exact ⟨rfl, hid ⟨hz.lay (hmem hl) rfl h1 h2, h2⟩⟩)
  have hcw : IntKind.i64.wrap (c + 1) = c + 1 := by rw [IntKind.wrap_i64]; omega
  have hpn : p ≠ w.heap.size := by have := hp_lt h.tb.blk; omega
  generalize hP : SputN w p t f c m key v = PP
  have HP := hid hP
  clear h hc hq hn hk hmem hP hvb
  obtain ⟨n0, a0, o0⟩ := v
  go_enter Tryz.func26, Tryz.ntmps26
  go_wp2_with (first
    | (go_at_call 44
       refine AT.out.mono ?_
       rintro e w1 ⟨rfl, hb1⟩
       have B1 := hid (below_on hB2.out hb1)
       have P1 := hid (PU.out w1 B1.out (hp_below hB1.out hb1 (hp_lt hB1.out)))
       clear hb1)
    | (go_at_call 45
       refine P1.out.mono ?_
       rintro e w2 ⟨t', u2, rfl, N2⟩
       have R2 := hid (RD.out w2 t' w1.heap.size N2.out.1 N2.out.2.1))
    | (go_at_call 46
       refine R2.out.mono ?_
       rintro e w3 ⟨rfl, N3⟩
       have hB3 := hid (below_new w3 zB)
       have Z3 := hid (N3.out.1.below hB3.out)
       have Y3 := hid (hp_alloc (hp_below N2.out.2.2.2.2 N3.out.2 (hp_lt N2.out.2.2.2.2)) zB)
       obtain ⟨y0, y1, y2, y3⟩ := cells4 Z3.out.tb.blk
       have yf : ∀ j, (w3.alloc zB).frozen? ⟨p, j, none⟩ = false := fun j => free_of_block Z3.out.tb.blk
       obtain ⟨u0, u1, u2⟩ := cells3 Y3.out
       have L3 := hid (LY.out _ t' w1.heap.size _ (Z3.out.count (c + 1)) N2.out.2.1))
    | (go_at_call 47
       refine L3.out.mono ?_
       rintro e w4 ⟨rfl, N4⟩))
  go_end0
  rw [← HP.out]
  obtain ⟨n, hl⟩ := N2.out.2.1
  refine ⟨rfl, t', w1.heap.size, n, B1.out.size, hl, N4.out.1, ?_, N2.out.2.2.2.1⟩
  have k1 : Kept (fun j => j = p ∨ j ∈ t.bs) w (w3.alloc zB) := N2.out.2.2.1.trans ((Kept.ofBelow (below_on N3.out.2 hB3.out))) (fun _ _ e => e.elim)
  have hs := B1.out.size
  exact (k1.setCell (p := ⟨p, 2, none⟩) (fun _ => .inl rfl) _).trans N4.out.2 (fun j hj e => by omega)

end Go.Proofs.YthcoigbkdbkojaaGreat.V

namespace Go.Proofs.YthcoigbkdbkojaaGreat.V
open Go.RowKit

def bk : Value → Nat
  | .pointer (some a) => a.block
  | _ => 0

theorem ZS.kept {w w' : World} {p : Nat} {t : Tr} {f : Nat → Sd} {c : Int} {m : Bool} {S : Nat → Prop} (h : ZS w p t f c m) (hk : Kept S w w') (h0 : ¬ S p) (h1 : ∀ i ∈ t.bs, ¬ S i) (h2 : ∀ e ∈ t.toL, ¬ S (bk e.2.2)) : ZS w' p t f c m :=
  ⟨h.tb.kept hk h0 h1, fun e he => by
    obtain ⟨b, q1, q2⟩ := h.sl e he
    have := h2 e he
    rw [q1] at this
    exact ⟨b, q1, hp_kept q2 hk this⟩, h.nd, h.sh⟩

theorem ZS.lt {w : World} {p : Nat} {t : Tr} {f : Nat → Sd} {c : Int} {m : Bool} (h : ZS w p t f c m) : p < w.heap.size ∧ (∀ i ∈ t.bs, i < w.heap.size) ∧ ∀ e ∈ t.toL, bk e.2.2 < w.heap.size :=
  ⟨hp_lt h.tb.blk, fun i hi => h.tb.at_.lt i hi, fun e he => by
    obtain ⟨b, q1, q2⟩ := h.sl e he
    rw [q1]
    exact hp_lt q2⟩

theorem nd_inj : ∀ {l : List En}, (l.map (fun e => e.2.2)).Nodup → ∀ a ∈ l, ∀ b ∈ l, a.2.2 = b.2.2 → a = b
  | [], _, _, h, _, _, _ => by cases h
  | c :: l, hn, a, ha, b, hb, e => by
    rw [List.map_cons, List.nodup_cons] at hn
    rcases List.mem_cons.1 ha with h1 | h1 <;> rcases List.mem_cons.1 hb with h2 | h2
    · rw [h1, h2]
    · subst h1
      exact absurd (List.mem_map.2 ⟨b, h2, e.symm⟩) hn.1
    · subst h2
      exact absurd (List.mem_map.2 ⟨a, h1, e⟩) hn.1
    · exact nd_inj hn.2 a h1 b h2 e

end Go.Proofs.YthcoigbkdbkojaaGreat.V

namespace Go.Proofs.YthcoigbkdbkojaaGreat.V
open Go.RowKit

theorem lay_keep (s : Sd) (v : Pd) (h : Bool) : (s.lay v h).has (s.lay v h).r = h := by
  obtain ⟨c0, c1, h0, h1, r, w⟩ := s
  cases w <;> rfl
theorem lay_copy (s : Sd) (v : Pd) (h : Bool) : (s.lay v h).copy (s.lay v h).r = v := by
  obtain ⟨c0, c1, h0, h1, r, w⟩ := s
  cases w <;> rfl

theorem ent_of_mem : ∀ {l : List En}, Rises l → ∀ {e : En}, e ∈ l → ent e.2.1 l = some e
  | [], _, _, h => by cases h
  | a :: l, hr, e, h => by
    have hr' := List.pairwise_cons.1 hr
    unfold ent
    rw [List.find?_cons]
    rcases List.mem_cons.1 h with rfl | h1
    · simp
    · have hk := hr'.1 e h1
      have : (a.2.1.toList == e.2.1.toList) = false := keq_false (kl_ne hk)
      rw [this]
      exact ent_of_mem hr'.2 h1

/-- What a slot has that is read. -/
def rdS (s : Sd) : Pd := s.copy s.r
def updG (g : ByteArray → Option Pd) (key : ByteArray) (v : Pd) : ByteArray → Option Pd := fun k => if k = key then some v else g k

/-- A store in which every slot has something to be read: what each key has. -/
structure PV (w : World) (p : Nat) (g : ByteArray → Option Pd) (m : Bool) (n B : Nat) : Prop where
  ex : ∃ t f c, ZS w p t f c m ∧ (0 ≤ c ∧ c ≤ (n : Int)) ∧ t.n ≤ n ∧ (∀ e ∈ t.toL, (f (bk e.2.2)).has (f (bk e.2.2)).r = true) ∧ (∀ key, (ent key t.toL).map (fun e => rdS (f (bk e.2.2))) = g key) ∧
    B ≤ p ∧ (∀ j ∈ t.bs, B ≤ j) ∧ (∀ e ∈ t.toL, B ≤ bk e.2.2)

theorem PV.below {w w' : World} {p : Nat} {g : ByteArray → Option Pd} {m : Bool} {n B : Nat} (h : PV w p g m n B) (hb : Below w.heap.size w w') : PV w' p g m n B := by
  obtain ⟨t, f, c, hz, hr⟩ := h.ex
  exact ⟨⟨t, f, c, hz.below hb, hr⟩⟩

theorem pput (p : Nat) (key : ByteArray) (v : Pd) (g : ByteArray → Option Pd) (m : Bool) (n B : Nat) (w : World) (h : PV w p g m n B) (hB : B ≤ w.heap.size) (hn : n ≤ 500000) (hk : key.size ≤ 281474976710656) :
    Calls Tryz.prog 26 #[.pointer (some ⟨p, 0, none⟩), .string key, v.agg] w fun x w' => x = .returned (.tuple #[]) ∧ PV w' p (updG g key v) m (n + 1) B ∧ Kept (fun j => B ≤ j) w w' := by
  obtain ⟨t, f, c, hz, hc, hn1, hs, hg, b1, b2, b3⟩ := h.ex
  cases hq : ent key t.toL with
  | none =>
    refine (sput_new p key v t f c m w hz ⟨hc.1, by omega⟩ (by omega) hk hq).mono ?_
    rintro x w' ⟨rfl, t', b, n', hb, hl', hz', hk', hnw⟩
    have hperm := ins_perm (n', key, Value.pointer (some ⟨b, 0, none⟩)) t.toL
    have hmem : ∀ e, e ∈ t'.toL ↔ e = (n', key, Value.pointer (some ⟨b, 0, none⟩)) ∨ e ∈ t.toL := fun e => by rw [hl', hperm.mem_iff, List.mem_cons]
    have hlt := (hz.lt).2.2
    have hne : ∀ e ∈ t.toL, bk e.2.2 ≠ b := fun e he e3 => by have := hlt e he; omega
    have fo : ∀ e ∈ t.toL, updF (updF f b s0) b (s0.lay v true) (bk e.2.2) = f (bk e.2.2) := fun e he => by unfold updF; rw [if_neg (hne e he), if_neg (hne e he)]
    have fn : updF (updF f b s0) b (s0.lay v true) (bk (Value.pointer (some ⟨b, 0, none⟩))) = s0.lay v true := by unfold updF; rw [show bk (Value.pointer (some ⟨b, 0, none⟩)) = b from rfl, if_pos rfl]
    refine ⟨rfl, ⟨t', _, _, hz', ⟨by omega, by omega⟩, ?_, ?_, ?_, b1, ?_, ?_⟩, hk'.mono (fun j _ e => e.elim (fun e => by rw [e]; exact b1) (b2 j))⟩
    · have : t'.n = t.n + 1 := by
        unfold Tr.n
        rw [hl', hperm.length_eq, List.length_cons]
      omega
    · intro e he
      rcases (hmem e).1 he with rfl | h1
      · show (updF _ _ _ (bk (Value.pointer (some ⟨b, 0, none⟩)))).has _ = true
        rw [fn]
        exact lay_keep _ _ _
      · rw [fo e h1]
        exact hs e h1
    · intro k
      unfold updG
      by_cases hkk : k = key
      · subst hkk
        rw [if_pos rfl]
        have := ent_of_mem hz'.tb.rs ((hmem _).2 (.inl rfl))
        rw [show ent k t'.toL = _ from this]
        show some (rdS (updF _ _ _ (bk (Value.pointer (some ⟨b, 0, none⟩))))) = _
        rw [fn]
        unfold rdS
        rw [lay_copy]
      · rw [if_neg hkk, ← hg k]
        cases hq2 : ent k t.toL with
        | none =>
          cases hq3 : ent k t'.toL with
          | none => rfl
          | some e =>
            obtain ⟨h1, h2⟩ := ent_some hq3
            rcases (hmem e).1 h1 with rfl | h3
            · exact absurd h2.symm hkk
            · exact absurd h2 (ent_none hq2 e h3)
        | some e =>
          obtain ⟨h1, h2⟩ := ent_some hq2
          have := ent_of_mem hz'.tb.rs ((hmem e).2 (.inr h1))
          rw [h2] at this
          rw [this]
          show some (rdS _) = some (rdS _)
          rw [fo e h1]
    · intro j hj
      rcases hnw j hj with h1 | h1
      · exact b2 j h1
      · omega
    · intro e he
      rcases (hmem e).1 he with rfl | h1
      · show B ≤ b
        omega
      · exact b3 e h1
  | some e0 =>
    obtain ⟨b, hb, hsl⟩ := hz.sl e0 (ent_some hq).1
    refine (sput_has p key v t f c m w e0 b hz ⟨hc.1, by omega⟩ hq hb).mono ?_
    rintro x w' ⟨rfl, hz', hk'⟩
    have hm0 := (ent_some hq).1
    have hnd := nd_inj hz.nd
    have hbk : bk e0.2.2 = b := by rw [hb]; rfl
    have hne : ∀ e ∈ t.toL, e ≠ e0 → bk e.2.2 ≠ b := fun e hm hn2 e3 => by
      obtain ⟨b1', q1, -⟩ := hz.sl e hm
      refine hn2 (hnd e hm e0 hm0 ?_)
      rw [q1] at e3 ⊢
      rw [hb]
      have : b1' = b := e3
      rw [this]
    have fo : ∀ e ∈ t.toL, e ≠ e0 → updF f b ((f b).lay v true) (bk e.2.2) = f (bk e.2.2) := fun e he hn2 => by unfold updF; rw [if_neg (hne e he hn2)]
    have fn : updF f b ((f b).lay v true) (bk e0.2.2) = (f b).lay v true := by unfold updF; rw [hbk, if_pos rfl]
    refine ⟨rfl, ⟨t, _, _, hz', ?_, by omega, ?_, ?_, b1, b2, b3⟩, hk'.mono (fun j _ e => e.elim (fun e => by rw [e]; exact b1) (fun e => by rw [e, ← hbk]; exact b3 e0 hm0))⟩
    · cases (f b).has (f b).r
      · simp only [Bool.false_eq_true, if_false]; omega
      · simp only [if_true]; omega
    · intro e he
      by_cases h1 : e = e0
      · subst h1
        rw [fn]
        exact lay_keep _ _ _
      · rw [fo e he h1]
        exact hs e he
    · intro k
      unfold updG
      by_cases hkk : k = key
      · subst hkk
        rw [if_pos rfl, hq]
        show some (rdS _) = _
        rw [fn]
        unfold rdS
        rw [lay_copy]
      · rw [if_neg hkk, ← hg k]
        cases hq2 : ent k t.toL with
        | none => rfl
        | some e =>
          obtain ⟨h1, h2⟩ := ent_some hq2
          show some (rdS _) = some (rdS _)
          rw [fo e h1 (fun e3 => hkk (by rw [← h2, e3]; exact (ent_some hq).2))]

theorem pget (p : Nat) (key : ByteArray) (g : ByteArray → Option Pd) (m : Bool) (n B : Nat) (w : World) (h : PV w p g m n B) :
    Calls Tryz.prog 40 #[.pointer (some ⟨p, 0, none⟩), .string key] w fun x w' => (∃ (r : Pd) (q : Bool), x = .returned (.tuple #[r.agg, .bool q]) ∧ Hid (∀ v, g key = some v → r = v ∧ q = true)) ∧ Hid (Below w.heap.size w w') := by
  obtain ⟨t, f, c, hz, hc, hn1, hs, hg, b1, b2, b3⟩ := h.ex
  refine (sget_any p key t f c m w hz).mono ?_
  rintro x w' ⟨rfl, hb⟩
  refine ⟨⟨_, _, rfl, hid (fun v hv => ?_)⟩, hid hb⟩
  have := hg key
  rw [hv] at this
  cases hq : ent key t.toL with
  | none => rw [hq] at this; cases this
  | some e0 =>
    obtain ⟨b, hb, hsl⟩ := hz.sl e0 (ent_some hq).1
    rw [hq] at this
    injection this with this
    unfold zget
    rw [hq]
    simp only [hb]
    have hbk : bk e0.2.2 = b := by rw [hb]; rfl
    have this : rdS (f (bk e0.2.2)) = v := this
    rw [hbk] at this
    have hh := hs e0 (ent_some hq).1
    rw [hbk] at hh
    exact ⟨this, hh⟩

set_option maxRecDepth 100000 in
set_option maxHeartbeats 800000 in
theorem pnew (w : World) : Calls Tryz.prog 25 #[] w fun x w' => x = .returned (.pointer (some ⟨w.heap.size, 0, none⟩)) ∧ Hid (PV w' w.heap.size (fun _ => none) false 0 w.heap.size ∧ Below w.heap.size w w') := by
  go_enter Tryz.func25, Tryz.ntmps25
  go_wp2
  go_ret
  exact ⟨rfl, hid ⟨⟨.nil, fun _ => s0, 0, ⟨⟨hp_new w _, trivial, List.Pairwise.nil, List.Pairwise.nil⟩, fun e he => (by cases he), List.Pairwise.nil, fun e he => (by cases he)⟩, ⟨by decide, by decide⟩, by decide, fun e he => (by cases he), fun _ => rfl, Nat.le_refl _, fun j hj => (by cases hj), fun e he => (by cases he)⟩, below_new _ _⟩⟩

end Go.Proofs.YthcoigbkdbkojaaGreat.V

namespace Go.Proofs.YthcoigbkdbkojaaGreat
open Go.RowKit
open V (hp_new hp_lt hp_below hp_alloc)

theorem kept_v {S : Nat → Prop} {w w' : World} (h : V.Kept S w w') : Kept S w w' := ⟨h.os, h.tape, h.output, h.size, h.block⟩

theorem hpk {w w' : World} {g : Nat} {o : Obj} {S : Nat → Prop} (h : w.heap[g]? = some o) (hk : Kept S w w') (hg : ¬ S g) : w'.heap[g]? = some o := (hk.block g (hp_lt h) hg).trans h

/-- A value as plain data. -/
structure Vd where
  k : Int
  i : Int
  t : ByteArray
abbrev Vd.val (v : Vd) : Value := vl v.k v.i v.t

/-- A machine as plain data. -/
structure Ms where
  vw : Value
  av : Value
  pc : Int
  rg : Int → Vd
  tv : Value
  wv : Value
  lv : Value

/-- A machine in the heap. -/
structure Mb (w : World) (mb : Nat) (s : Ms) : Prop where
  ex : ∃ cs, w.heap[mb]? = some (.cells cs 82 (0, 0)) ∧ cs.size = 54 ∧ cs[0]? = some s.vw ∧ cs[1]? = some s.av ∧ cs[2]? = some (.int .i64 s.pc) ∧ cs[51]? = some s.tv ∧ cs[52]? = some s.wv ∧ cs[53]? = some s.lv ∧
    ∀ r : Nat, r < 16 → cs[3 + r * 3]? = some (.int .i64 (s.rg r).k) ∧ cs[3 + r * 3 + 1]? = some (.int .i64 (s.rg r).i) ∧ cs[3 + r * 3 + 2]? = some (.string (s.rg r).t)

section
variable {w w' : World} {mb : Nat} {s : Ms}

theorem Mb.lt (h : Mb w mb s) : mb < w.heap.size := by obtain ⟨cs, h1, -⟩ := h.ex; exact hp_lt h1

theorem Mb.cells (h : Mb w mb s) : w.cell? ⟨mb, 0, none⟩ = some s.vw ∧ w.cell? ⟨mb, 1, none⟩ = some s.av ∧ w.cell? ⟨mb, 2, none⟩ = some (.int .i64 s.pc) ∧ w.cell? ⟨mb, 51, none⟩ = some s.tv ∧ w.cell? ⟨mb, 52, none⟩ = some s.wv ∧ w.cell? ⟨mb, 53, none⟩ = some s.lv := by
  obtain ⟨cs, h1, -, c0, c1, c2, c3, c4, c5, -⟩ := h.ex
  refine ⟨?_, ?_, ?_, ?_, ?_, ?_⟩ <;> (rw [cell_of_row _ _ _ _ _ _ h1]; assumption)

theorem Mb.reg (h : Mb w mb s) (r : Int) (h0 : 0 ≤ r) (h1 : r < 16) : w.cell? ⟨mb, 3 + r.toNat * 3, none⟩ = some (.int .i64 (s.rg r).k) ∧ w.cell? ⟨mb, 3 + r.toNat * 3 + 1, none⟩ = some (.int .i64 (s.rg r).i) ∧ w.cell? ⟨mb, 3 + r.toNat * 3 + 2, none⟩ = some (.string (s.rg r).t) := by
  obtain ⟨cs, hb, -, -, -, -, -, -, -, hr⟩ := h.ex
  obtain ⟨a, b, c⟩ := hr r.toNat (by omega)
  rw [Int.toNat_of_nonneg h0] at a b c
  refine ⟨?_, ?_, ?_⟩ <;> (rw [cell_of_row _ _ _ _ _ _ hb]; assumption)

theorem Mb.free (h : Mb w mb s) (o : Nat) : w.frozen? ⟨mb, o, none⟩ = false := by obtain ⟨cs, h1, -⟩ := h.ex; exact free_of_block h1

theorem Mb.kept {S : Nat → Prop} (h : Mb w mb s) (hk : Kept S w w') (hS : ¬ S mb) : Mb w' mb s := by
  obtain ⟨cs, h1, h2⟩ := h.ex
  exact ⟨cs, hpk h1 hk hS, h2⟩

theorem Mb.below (h : Mb w mb s) (hb : Below w.heap.size w w') : Mb w' mb s := h.kept (Kept.ofBelow hb) fun e => e

/-- A register has another value. -/
def Ms.set (s : Ms) (r : Int) (v : Vd) : Ms := { s with rg := fun q => if q = r then v else s.rg q }

theorem Mb.setReg (h : Mb w mb s) (r : Int) (h0 : 0 ≤ r) (h1 : r < 16) (v : Vd) : Mb (((w.setCell ⟨mb, 3 + r.toNat * 3, none⟩ (.int .i64 v.k)).setCell ⟨mb, 3 + r.toNat * 3 + 1, none⟩ (.int .i64 v.i)).setCell ⟨mb, 3 + r.toNat * 3 + 2, none⟩ (.string v.t)) mb (s.set r v) := by
  obtain ⟨cs, hb, hz, c0, c1, c2, c3, c4, c5, hr⟩ := h.ex
  refine ⟨_, V.set_block (V.set_block (V.set_block hb (.int .i64 v.k)) (.int .i64 v.i)) (.string v.t), by simp [hz], ?_, ?_, ?_, ?_, ?_, ?_, fun q hq => ?_⟩
  · rw [Array.getElem?_setIfInBounds, if_neg (by omega), Array.getElem?_setIfInBounds, if_neg (by omega), Array.getElem?_setIfInBounds, if_neg (by omega)]; exact c0
  · rw [Array.getElem?_setIfInBounds, if_neg (by omega), Array.getElem?_setIfInBounds, if_neg (by omega), Array.getElem?_setIfInBounds, if_neg (by omega)]; exact c1
  · rw [Array.getElem?_setIfInBounds, if_neg (by omega), Array.getElem?_setIfInBounds, if_neg (by omega), Array.getElem?_setIfInBounds, if_neg (by omega)]; exact c2
  · rw [Array.getElem?_setIfInBounds, if_neg (by omega), Array.getElem?_setIfInBounds, if_neg (by omega), Array.getElem?_setIfInBounds, if_neg (by omega)]; exact c3
  · rw [Array.getElem?_setIfInBounds, if_neg (by omega), Array.getElem?_setIfInBounds, if_neg (by omega), Array.getElem?_setIfInBounds, if_neg (by omega)]; exact c4
  · rw [Array.getElem?_setIfInBounds, if_neg (by omega), Array.getElem?_setIfInBounds, if_neg (by omega), Array.getElem?_setIfInBounds, if_neg (by omega)]; exact c5
  · have hsz := hz
    by_cases e : (q : Int) = r
    · have e2 : q = r.toNat := by omega
      subst e2
      have ev : (s.set r v).rg (r.toNat : Int) = v := by show (if (r.toNat : Int) = r then v else s.rg _) = v; rw [if_pos e]
      rw [ev]
      refine ⟨?_, ?_, ?_⟩
      · rw [Array.getElem?_setIfInBounds, if_neg (by omega), Array.getElem?_setIfInBounds, if_neg (by omega), Array.getElem?_setIfInBounds, if_pos rfl, if_pos (by omega)]
      · rw [Array.getElem?_setIfInBounds, if_neg (by omega), Array.getElem?_setIfInBounds, if_pos rfl, if_pos (by rw [Array.size_setIfInBounds]; omega)]
      · rw [Array.getElem?_setIfInBounds, if_pos rfl, if_pos (by rw [Array.size_setIfInBounds, Array.size_setIfInBounds]; omega)]
    · have e2 : q ≠ r.toNat := by omega
      have ev : (s.set r v).rg (q : Int) = s.rg q := by show (if (q : Int) = r then v else s.rg _) = _; rw [if_neg e]
      rw [ev]
      obtain ⟨a, b, c⟩ := hr q hq
      refine ⟨?_, ?_, ?_⟩
      · rw [Array.getElem?_setIfInBounds, if_neg (by omega), Array.getElem?_setIfInBounds, if_neg (by omega), Array.getElem?_setIfInBounds, if_neg (by omega)]; exact a
      · rw [Array.getElem?_setIfInBounds, if_neg (by omega), Array.getElem?_setIfInBounds, if_neg (by omega), Array.getElem?_setIfInBounds, if_neg (by omega)]; exact b
      · rw [Array.getElem?_setIfInBounds, if_neg (by omega), Array.getElem?_setIfInBounds, if_neg (by omega), Array.getElem?_setIfInBounds, if_neg (by omega)]; exact c

theorem Mb.setOne (h : Mb w mb s) (o : Nat) (ho : o = 2 ∨ o = 51 ∨ o = 53) (v : Value) (s' : Ms) (h2 : s'.vw = s.vw ∧ s'.av = s.av ∧ s'.wv = s.wv ∧ s'.rg = s.rg) (e1 : .int .i64 s'.pc = if o = 2 then v else .int .i64 s.pc) (e2 : s'.tv = if o = 51 then v else s.tv) (e3 : s'.lv = if o = 53 then v else s.lv) : Mb (w.setCell ⟨mb, o, none⟩ v) mb s' := by
  obtain ⟨cs, hb, hz, c0, c1, c2, c3, c4, c5, hr⟩ := h.ex
  obtain ⟨q1, q2, q3, q4⟩ := h2
  refine ⟨_, V.set_block hb v, by simp [hz], ?_, ?_, ?_, ?_, ?_, ?_, fun q hq => ?_⟩
  · rw [Array.getElem?_setIfInBounds, if_neg (by omega), q1]; exact c0
  · rw [Array.getElem?_setIfInBounds, if_neg (by omega), q2]; exact c1
  · rw [Array.getElem?_setIfInBounds, e1]
    by_cases e : o = 2
    · rw [if_pos e, if_pos e, if_pos (by omega)]
    · rw [if_neg e, if_neg e]; exact c2
  · rw [Array.getElem?_setIfInBounds, e2]
    by_cases e : o = 51
    · rw [if_pos e, if_pos e, if_pos (by omega)]
    · rw [if_neg e, if_neg e]; exact c3
  · rw [Array.getElem?_setIfInBounds, if_neg (by omega), q3]; exact c4
  · rw [Array.getElem?_setIfInBounds, e3]
    by_cases e : o = 53
    · rw [if_pos e, if_pos e, if_pos (by omega)]
    · rw [if_neg e, if_neg e]; exact c5
  · obtain ⟨a, b, c⟩ := hr q hq
    rw [q4]
    refine ⟨?_, ?_, ?_⟩ <;> (rw [Array.getElem?_setIfInBounds, if_neg (by omega)]; assumption)

theorem Mb.setAt (h : Mb w mb s) (n : Int) : Mb (w.setCell ⟨mb, 2, none⟩ (.int .i64 n)) mb { s with pc := n } := h.setOne 2 (.inl rfl) _ _ ⟨rfl, rfl, rfl, rfl⟩ rfl rfl rfl
theorem Mb.setTold (h : Mb w mb s) (v : Value) : Mb (w.setCell ⟨mb, 51, none⟩ v) mb { s with tv := v } := h.setOne 51 (.inr (.inl rfl)) _ _ ⟨rfl, rfl, rfl, rfl⟩ rfl rfl rfl
theorem Mb.setLooks (h : Mb w mb s) (v : Value) : Mb (w.setCell ⟨mb, 53, none⟩ v) mb { s with lv := v } := h.setOne 53 (.inr (.inr rfl)) _ _ ⟨rfl, rfl, rfl, rfl⟩ rfl rfl rfl

end

end Go.Proofs.YthcoigbkdbkojaaGreat

namespace Go.Proofs.YthcoigbkdbkojaaGreat
open Go.RowKit
open V (hp_new hp_lt hp_below hp_alloc)

theorem add_lit (b off j : Nat) : (⟨b, off, none⟩ : Addr).add j = ⟨b, off + j, none⟩ := by
  unfold Addr.add; split <;> simp_all

theorem own_shape {w : World} {B : Nat} {e : TypeId} {size : Nat} {v : Value} {n : Nat} {xs : List Value} (h : w.ownsRow B e size v n xs) : ∃ ao c, v = .slice ao n c := by
  rcases h.2 with ⟨e1, e2⟩ | ⟨g, cap, cur, e1, _⟩
  · exact ⟨none, 0, by rw [e1, e2]⟩
  · exact ⟨_, _, e1⟩

theorem owns_nil (w : World) (B : Nat) (e : TypeId) (size : Nat) : w.ownsRow B e size (.slice none 0 0) 0 [] := ⟨by simp, .inl ⟨rfl, rfl⟩⟩

theorem owns_mono {W : World} {B B' : Nat} {e : TypeId} {m : Nat} {v : Value} {n : Nat} {xs : List Value} (h : W.ownsRow B e m v n xs) (hB : B' ≤ B) : W.ownsRow B' e m v n xs := by
  refine ⟨h.1, ?_⟩
  rcases h.2 with h0 | ⟨g, cap, cur, e1, hb, rest⟩
  · exact .inl h0
  · exact .inr ⟨g, cap, cur, e1, Nat.le_trans hB hb, rest⟩

theorem owns_ty {W : World} {B : Nat} {e : TypeId} {m : Nat} {v : Value} {n : Nat} {xs : List Value} (h : W.ownsRow B e m v n xs) {k : Nat} (hk : v.ownBlock = some k) : ∃ cur, W.heap[k]? = some (.cells cur e (0, 0)) := by
  rcases h.2 with ⟨rfl, _⟩ | ⟨g', cap, cur, rfl, _, hgg, _⟩
  · simp [Value.ownBlock] at hk
  · simp [Value.ownBlock] at hk
    subst hk
    exact ⟨cur, hgg⟩

theorem owns_ne {W : World} {B B' : Nat} {e e' : TypeId} {m m' : Nat} {v v' : Value} {n n' : Nat} {xs xs' : List Value} (h : W.ownsRow B e m v n xs) (h' : W.ownsRow B' e' m' v' n' xs') (he : e ≠ e') (k : Nat) (hk : v.ownBlock = some k) : ¬ v'.ownBlock = some k := fun hk' => by
  obtain ⟨c1, h1⟩ := owns_ty h hk
  obtain ⟨c2, h2⟩ := owns_ty h' hk'
  rw [h1] at h2
  injection h2 with h2
  injection h2 with _ h2
  exact he h2

/-- v is a slice of n elements of m cells each, and these are its cells. -/
def Rf (w : World) (m : Nat) (v : Value) (n : Nat) (cs : List Value) : Prop :=
  cs.length = n * m ∧ (∀ u ∈ cs, u.oneCell' = true) ∧ ((v = .slice none 0 0 ∧ n = 0) ∨ ∃ a cap, v = .slice (some a) n cap ∧ n ≤ cap ∧ cap ≤ maxLen ∧ ∀ j u, cs[j]? = some u → w.cell? (a.add j) = some u)

theorem rf_nil (w : World) (m : Nat) : Rf w m (.slice none 0 0) 0 [] := ⟨by simp, (fun _ h => nomatch h), .inl ⟨rfl, rfl⟩⟩

theorem Rf.shape {w : World} {m : Nat} {v : Value} {n : Nat} {cs : List Value} (h : Rf w m v n cs) : ∃ ao cap, v = .slice ao n cap ∧ n ≤ cap ∧ cap ≤ maxLen := by
  rcases h.2.2 with ⟨rfl, rfl⟩ | ⟨a, cap, rfl, h1, h2, _⟩
  · exact ⟨none, 0, rfl, Nat.le_refl _, by simp [maxLen]⟩
  · exact ⟨_, _, rfl, h1, h2⟩

theorem Rf.lits {w : World} {m : Nat} {v : Value} {n : Nat} {cs : List Value} (h : Rf w m v n cs) (h0 : 0 < n) (hm : 0 < m) : ∃ b off cap, v = .slice (some ⟨b, off, none⟩) n cap ∧ n ≤ cap ∧ cap ≤ maxLen ∧ ∀ j u, cs[j]? = some u → w.cell? ⟨b, off + j, none⟩ = some u := by
  obtain ⟨hl, -, h2⟩ := h
  rcases h2 with ⟨rfl, rfl⟩ | ⟨a, cap, rfl, h3, h5, h4⟩
  · omega
  · obtain ⟨b, off, spot⟩ := a
    have hpos : 0 < cs.length := by rw [hl]; exact Nat.mul_pos h0 hm
    have c0 := h4 0 cs[0] (by simp [hpos])
    have hspot : spot = none := by simpa [Addr.add] using World.cell?_spot c0
    subst hspot
    refine ⟨b, off, cap, rfl, h3, h5, fun j u hu => ?_⟩
    have := h4 j u hu
    rwa [add_lit] at this

theorem Rf.kept {w w' : World} {m : Nat} {v : Value} {n : Nat} {cs : List Value} {S : Nat → Prop} (h : Rf w m v n cs) (hk : Kept S w w') (hn : ∀ k, v.ownBlock = some k → ¬ S k) : Rf w' m v n cs := by
  obtain ⟨h0, h1, h2⟩ := h
  refine ⟨h0, h1, ?_⟩
  rcases h2 with h2 | ⟨a, cap, rfl, h3, h5, h4⟩
  · exact .inl h2
  · refine .inr ⟨a, cap, rfl, h3, h5, fun j u hu => hk.cell (h4 j u hu) ?_⟩
    have e : (a.add j).block = a.block := by unfold Addr.add; split <;> rfl
    rw [e]
    exact hn _ rfl

theorem Rf.below {w w' : World} {m : Nat} {v : Value} {n : Nat} {cs : List Value} (h : Rf w m v n cs) (hk : Below w.heap.size w w') : Rf w' m v n cs := h.kept (Kept.ofBelow hk) (fun _ _ h => h)

theorem rf_of_owns {w : World} {B : Nat} {e : TypeId} {m : Nat} {v : Value} {n : Nat} {xs : List Value} (h : w.ownsRow B e m v n xs) (h1 : ∀ u ∈ xs, u.oneCell' = true) : Rf w m v n xs := by
  refine ⟨h.1, h1, ?_⟩
  rcases h.2 with h0 | ⟨g, cap, cur, rfl, hb, hg, hc, hm, hs, ht⟩
  · exact .inl h0
  · refine .inr ⟨_, cap, rfl, hc, hm, fun j u hu => ?_⟩
    exact h.cells (g := g) rfl j u hu

/-- Any row onto an owned one. -/
theorem append_rf (w : World) (ty : TypeId) (B : Nat) (t e : TypeId) (z : Value) (m bytes : Nat) (ht : Tryz.prog.underlying t = some (.slice e)) (hinfo : (Tryz.prog.info? e).map (fun i => (i.zero, i.size, i.bytes)) = some (some z, m, bytes)) (hzs : z.cells.size = m) (hm : 0 < m)
    (v : Value) (n : Nat) (xs : List Value) (hown : w.ownsRow B e m v n xs) (sv : Value) (k : Nat) (ys : List Value) (hs : Rf w m sv k ys) (hl : (n + k) * bytes ≤ 140737488355328) (hl2 : n + k ≤ maxLen) (hbase : B ≤ w.heap.size) :
    ∃ v' w', (Builtin.append_ #[t, t] ty #[v, sv]).run Tryz.prog w = .ok v' w' ∧ w'.ownsRow B e m v' (n + k) (xs ++ ys) ∧ w.grownBy w' v.ownBlock ∧ (v'.ownBlock = v.ownBlock ∨ v'.ownBlock = some w.heap.size) := by
  obtain ⟨i0, hi, hz0, hz1, hz2⟩ := info_parts hinfo
  obtain ⟨h0, h1, h2⟩ := hs
  rcases h2 with ⟨rfl, rfl⟩ | ⟨a, cap, rfl, h3, h5, h4⟩
  · have hy : ys = [] := List.eq_nil_of_length_eq_zero (by simpa using h0)
    subst hy
    exact ⟨v, w, run_append_owned_none (P := Tryz.prog) (w := w) B t ty e i0 m ht hi v n xs hown, by simpa using hown, ⟨rfl, rfl, rfl, Nat.le_refl _, fun _ _ _ => rfl⟩, .inl rfl⟩
  · obtain ⟨v', w', hr, q1, q2, _, q4⟩ := run_append_own_at (P := Tryz.prog) w B t ty e i0 z m bytes ht hi hz0 hz1 hz2 hzs hm v n xs hown a k cap ys h0 h4 h1 hl2 hl hbase
    exact ⟨v', w', hr, q1, q2, q4⟩

theorem wpList_append_rf (w : World) {ops : Array Oper} {rest : List Oper} {o : Oper} {a : Act} {Q : Exit → Act → World → Prop} (hgd : o.guard = none) (s x : Operand) (t e : TypeId) (z : Value) (m bytes : Nat)
    (ho : o.op = .call { callee := .builtin .append, args := #[s, x], argTypes := #[t, t] }) (ht : Tryz.prog.underlying t = some (.slice e)) (hinfo : (Tryz.prog.info? e).map (fun i => (i.zero, i.size, i.bytes)) = some (some z, m, bytes)) (hzs : z.cells.size = m) (hm : 0 < m)
    (B : Nat) (v : Value) (n : Nat) (xs : List Value) (hs : a.eval s = v) (hown : w.ownsRow B e m v n xs)
    (sv : Value) (k : Nat) (ys : List Value) (hx : a.eval x = sv) (hsn : Rf w m sv k ys) (hl : (n + k) * bytes ≤ 140737488355328) (hl2 : n + k ≤ maxLen) (hbase : B ≤ w.heap.size)
    (h : ∀ ao c w', Hid (w'.ownsRow B e m (.slice ao (n + k) c) (n + k) (xs ++ ys)) → Hid (w.grownBy w' v.ownBlock) → Hid ((Value.slice ao (n + k) c).ownBlock = v.ownBlock ∨ (Value.slice ao (n + k) c).ownBlock = some w.heap.size) → wpList Tryz.prog ops Q rest (a.put o.dst (.slice ao (n + k) c)) w') : wpList Tryz.prog ops Q (o :: rest) a w := by
  refine wpList_plain hgd fun K hK => ?_
  obtain ⟨v', w', hr, h2, h3, h4⟩ := append_rf w o.type B t e z m bytes ht hinfo hzs hm v n xs hown sv k ys hsn hl hl2 hbase
  obtain ⟨ao, c, rfl⟩ := own_shape h2
  unfold Oper.wp execOp
  simp only [ho, resolve, invoke, builtin, Sem.run_bind, Sem.run_pure, Result.andThen_ok, List.map_toArray, List.map_cons, List.map_nil, hs, hx, hr]
  exact hK _ _ (h ao c w' (hid h2) (hid h3) (hid h4))

theorem step_append_rf (w : World) {ops : Array Oper} {o : Oper} {a : Act} {K : Act → World → Prop} {Q : Exit → Act → World → Prop} {E : Prop} (hgd : o.guard = none) (s x : Operand) (t e : TypeId) (z : Value) (m bytes : Nat)
    (ho : o.op = .call { callee := .builtin .append, args := #[s, x], argTypes := #[t, t] }) (ht : Tryz.prog.underlying t = some (.slice e)) (hinfo : (Tryz.prog.info? e).map (fun i => (i.zero, i.size, i.bytes)) = some (some z, m, bytes)) (hzs : z.cells.size = m) (hm : 0 < m)
    (B : Nat) (v : Value) (n : Nat) (xs : List Value) (hs : a.eval s = v) (hown : w.ownsRow B e m v n xs)
    (sv : Value) (k : Nat) (ys : List Value) (hx : a.eval x = sv) (hsn : Rf w m sv k ys) (hl : (n + k) * bytes ≤ 140737488355328) (hl2 : n + k ≤ maxLen) (hbase : B ≤ w.heap.size)
    (h : ∀ ao c w', Hid (w'.ownsRow B e m (.slice ao (n + k) c) (n + k) (xs ++ ys)) → Hid (w.grownBy w' v.ownBlock) → Hid ((Value.slice ao (n + k) c).ownBlock = v.ownBlock ∨ (Value.slice ao (n + k) c).ownBlock = some w.heap.size) → K (a.put o.dst (.slice ao (n + k) c)) w') :
    if Region.wanted o (yielded ops a.tmps) = true then Oper.wp Tryz.prog o a w K Q else E := by
  have hw : Region.wanted o (yielded ops a.tmps) = true := by simp [Region.wanted, hgd]
  rw [if_pos hw]
  obtain ⟨v', w', hr, h2, h3, h4⟩ := append_rf w o.type B t e z m bytes ht hinfo hzs hm v n xs hown sv k ys hsn hl hl2 hbase
  obtain ⟨ao, c, rfl⟩ := own_shape h2
  unfold Oper.wp execOp
  simp only [ho, resolve, invoke, builtin, Sem.run_bind, Sem.run_pure, Result.andThen_ok, List.map_toArray, List.map_cons, List.map_nil, hs, hx, hr]
  exact h ao c w' (hid h2) (hid h3) (hid h4)

/-- The cells of one element of a flat row. -/
theorem flat_get {α : Type} (f : α → List Value) (m : Nat) (hf : ∀ x, (f x).length = m) : ∀ (xs : List α) (k c : Nat), c < m → (xs.flatMap f)[k * m + c]? = (xs[k]?).bind (fun x => (f x)[c]?)
  | [], k, c, _ => by simp
  | x :: xs, 0, c, h => by simp [List.getElem?_append_left, hf, h]
  | x :: xs, k + 1, c, h => by
    have ih := flat_get f m hf xs k c h
    rw [List.flatMap_cons, List.getElem?_append_right (by rw [hf, Nat.succ_mul]; omega), hf]
    have e : (k + 1) * m + c - m = k * m + c := by rw [Nat.succ_mul]; omega
    rw [e, ih]
    simp

theorem flat_len {α : Type} (f : α → List Value) (m : Nat) (hf : ∀ x, (f x).length = m) : ∀ xs : List α, (xs.flatMap f).length = xs.length * m
  | [] => by simp
  | x :: xs => by rw [List.flatMap_cons, List.length_append, hf, flat_len f m hf xs, List.length_cons, Nat.succ_mul]; omega

theorem rf_new (w : World) (t : TypeId) (cs : Array Value) (m : Nat) (hm : cs.size = m) (h1 : ∀ u ∈ cs.toList, u.oneCell' = true) : Rf (w.alloc (.cells cs t)) m (.slice (some ⟨w.heap.size, 0, none⟩) 1 1) 1 cs.toList := by
  have h : (w.alloc (.cells cs t)).ownsRow 0 t m (.slice (some ⟨w.heap.size, 0, none⟩) 1 1) 1 cs.toList := ⟨by simp [hm], .inr ⟨w.heap.size, 1, _, rfl, Nat.zero_le _, hp_new w _, Nat.le_refl _, by decide, by simp [hm], by rw [List.take_of_length_le (by simp [hm])]⟩⟩
  exact rf_of_owns h h1

end Go.Proofs.YthcoigbkdbkojaaGreat
