import Derived.Test.YtkalppcekmlgbabKb
import Derived.Test.YtkalppcekmlgbabVpPk
import Derived.Test.YtkalppcekmlgbabRf
import Derived.LaidEqlPtr
namespace Go.Proofs.Ytkalppcekmlgbab
open Go.RowKit

/-- The table of pointers, the table of Things and the Thing. -/
structure KS (w W : World) (u x : Nat) (n : Int) (lv : Value) (t : Vp.Tr) : Prop where
  hu : U0 W u
  hx : W.heap[x]? = some (.cells #[.int .i64 n, lv] 40 (0, 0))
  tb : Vp.Tb W w.heap.size t
  ow : ∀ i ∈ t.bs, w.heap.size ≤ i
  bl : Below w.heap.size w W
  uw : w.heap.size ≤ u

theorem vp_not {w : World} {p : Nat} {t : Vp.Tr} (ht : Vp.Tb w p t) {k : Nat} {cs : Array Value} {ty : TypeId} (hb : w.heap[k]? = some (.cells cs ty (0, 0))) (hn : ty ≠ 74 ∧ ty ≠ 81) : ¬ (k = p ∨ k ∈ t.bs) := by
  rintro (rfl | h)
  · rw [ht.blk] at hb
    injection hb with e
    injection e with _ e
    exact hn.1 e.symm
  · obtain ⟨key, v, hm⟩ := Vp.bs_mem h
    obtain ⟨a, c, d, e⟩ := ht.at_.mem k key v hm
    rw [e] at hb
    injection hb with e2
    injection e2 with _ e2
    exact hn.2 e2.symm

theorem KS.below {w W W' : World} {u x : Nat} {n : Int} {lv : Value} {t : Vp.Tr} (h : KS w W u x n lv t) (hb : Below W.heap.size W W') : KS w W' u x n lv t :=
  ⟨hp_below h.hu hb (hp_lt h.hu), hp_below h.hx hb (hp_lt h.hx), h.tb.below hb, h.ow, below_on h.bl hb, h.uw⟩
theorem KS.step {w W W' : World} {u x : Nat} {n : Int} {lv : Value} {t t' : Vp.Tr} (h : KS w W u x n lv t) (htb : Vp.Tb W' w.heap.size t') (hk : Kept (fun i => i = w.heap.size ∨ i ∈ t.bs) W W') (hn : ∀ i ∈ t'.bs, i ∈ t.bs ∨ W.heap.size ≤ i) : KS w W' u x n lv t' := by
  refine ⟨hp_kept h.hu hk (vp_not h.tb h.hu (by decide)), hp_kept h.hx hk (vp_not h.tb h.hx (by decide)), htb, fun i hi => ?_, h.bl.trans (hk.below h.bl.size (fun k hk2 e => ?_)), h.uw⟩
  · rcases hn i hi with h1 | h1
    · exact h.ow i h1
    · exact Nat.le_trans h.bl.size h1
  · rcases e with e | e
    · omega
    · have := h.ow k e; omega

theorem Try.info40 : (Try.prog.info? 40).map (fun i => (i.zero, i.size, i.bytes)) = some (some (.agg #[.int .i64 0, .slice none 0 0]), 2, 32) := by kernel_rfl
theorem neq_same (a : Addr) (w : World) : (binOp .neq 35 (.pointer (some a)) (.pointer (some a))).run Try.prog w = .ok (.bool false) w := by
  obtain ⟨j, hte, -⟩ := info_parts Try.info40
  have h : ∀ d : Nat, (Op.equalIn (d + 1) 35 (.pointer (some a)) (.pointer (some a))).run Try.prog w = .ok true w := fun d => by
    simp [Op.equalIn, run_underlying Try.underlying35, sizeOf, typeInfo, hte, run_sameAddr_same]
  simp only [binOp]
  simp [Op.equal, Op.maxDepth, h 9999]

theorem ent_one {key text : ByteArray} {m : Nat} {v : Value} : Vp.ent text [(m, key, v)] = if key = text then some (m, key, v) else none := by
  unfold Vp.ent
  by_cases h : key = text
  · subst h; simp
  · rw [if_neg h, List.find?_cons]
    simp [keq_false h]

theorem getV_one {key text : ByteArray} {m : Nat} {o : Option Addr} {l : List Vp.En} (hl : l = [(m, key, .pointer o)]) : Vp.getV text l = if key = text then .tuple #[.pointer o, .bool true] else .tuple #[.pointer none, .bool false] := by
  subst hl
  unfold Vp.getV
  rw [ent_one]
  by_cases h : key = text
  · rw [if_pos h, if_pos h]
  · rw [if_neg h, if_neg h]

theorem longer (a b : ByteArray) : b ≠ a ++ ⟨#[120]⟩ ++ b := by
  intro h
  have := congrArg ByteArray.size h
  simp only [ByteArray.size_append] at this
  have e : (⟨#[120]⟩ : ByteArray).size = 1 := rfl
  omega

theorem ks_last {w w12 : World} {u x b g : Nat} {key : ByteArray} {n : Int} {lv lx : Value} {cs : Array Value} (h : U1 w12 u b key n lv ∧ w12.heap[g]? = some (.cells cs 3 (0, 0)) ∧ w12.heap[x]? = some (.cells #[.int .i64 n, lx] 40 (0, 0)) ∧ Below w.heap.size w w12) (hg : w.heap.size ≤ g) (v : Value) (o : Obj) :
    U1 ((w12.setCell ⟨g, 0, none⟩ v).alloc o) u b key n lv ∧ ((w12.setCell ⟨g, 0, none⟩ v).alloc o).heap[x]? = some (.cells #[.int .i64 n, lx] 40 (0, 0)) ∧ Below w.heap.size w ((w12.setCell ⟨g, 0, none⟩ v).alloc o) := by
  obtain ⟨hU, h3, hx, hb⟩ := h
  have hne : ∀ {k : Nat} {c : Array Value} {ty : TypeId}, w12.heap[k]? = some (.cells c ty (0, 0)) → ty ≠ 3 → k ≠ g := fun hk hn e => by
    rw [e, h3] at hk
    injection hk with e1
    injection e1 with _ e2
    exact hn e2.symm
  refine ⟨⟨hp_alloc (hp_set hU.tb (hne hU.tb (by decide)) _) _, hp_alloc (hp_set hU.nd (hne hU.nd (by decide)) _) _⟩, hp_alloc (hp_set hx (hne hx (by decide)) _) _, (hb.setCell (p := ⟨g, 0, none⟩) hg _).alloc (by have := hb.size; simpa [World.setCell] using this) _⟩

theorem ks_put {w w9 w11 : World} {u x b : Nat} {key : ByteArray} {n : Int} {lv lx : Value} {t : Vp.Tr} {o : Obj} (h : KS w w9 u x n lx t) (hU : U1 w11 u b key n lv) (hK : Kept (fun j => j = u) (w9.alloc o) w11) :
    U1 w11 u b key n lv ∧ w11.heap[w9.heap.size]? = some o ∧ w11.heap[x]? = some (.cells #[.int .i64 n, lx] 40 (0, 0)) ∧ Below w.heap.size w w11 := by
  have b9 := below_new w9 o
  have hu := h.hu
  have hx := h.hx
  have hz := hp_lt hu
  have huw := h.uw
  have hsz := h.bl.size
  refine ⟨hU, hp_kept (hp_new w9 _) hK (by omega), hp_kept (hp_below hx b9 (hp_lt hx)) hK (fun e => ?_), (below_on h.bl b9).trans (hK.below (by simp; omega) (fun k hk e => by omega))⟩
  rw [e] at hx
  have hu' : w9.heap[u]? = some (.cells #[.pointer none, .int .i64 0] 77 (0, 0)) := hu
  rw [hx] at hu'
  cases hu'

set_option maxRecDepth 100000 in
set_option maxHeartbeats 16000000 in
theorem keeps_any (key other : ByteArray) (n : Int) (w : World) (hk : key.size ≤ 281474976710656) (ho : other.size ≤ 281474976710656) :
    Calls Try.prog 4 #[.string key, .string other, .int .i64 n] w fun x w' => x = .returned (.bool true) ∧ Below w.heap.size w w' := by
  have KN := hid known_any
  have NW := hid (Vp.new_any w)
  have NT := hid newT
  have HK := hid hk
  have hbn : (n == n) = true := by simp
  have hs1 : ¬ (9223372036854775807 < other.size + 1) := by omega
  have hs2 : ¬ (9223372036854775807 < other.size + 1 + key.size) := by omega
  have hs3 : ¬ (9223372036854775807 < (other ++ (⟨#[120]⟩ : ByteArray)).size + key.size) := by
    rw [ByteArray.size_append]
    have e : (⟨#[120]⟩ : ByteArray).size = 1 := rfl
    omega
  have hpe : ∀ (b : Nat) (W : World), (binOp .neq 35 (.pointer (some ⟨b, 0, none⟩)) (.pointer (some ⟨b, 0, none⟩))).run Try.prog W = .ok (.bool false) W := fun b W => neq_same _ W
  have hms : ∀ W : World, (Instr.makeSlice 38 (.int .i64 1) (.int .i64 4)).run Try.prog W = .ok (.slice (some ⟨W.heap.size, 0, none⟩) 1 4) (W.alloc (.cells #[.int .i64 0, .int .i64 0, .int .i64 0, .int .i64 0] 3)) := fun W => by kernel_rfl
  clear hk ho
  by_cases he : key = other
  · have b0 : (other.toList == key.toList) = true := by rw [he]; simp
    have HE := hid he
    clear he
    go_enter Try.func4, Try.ntmps4
    go_wp2_with (first
      | (go_at_call 11
         refine NW.out.mono ?_
         rintro e w1 ⟨rfl, ht1, hb1, -⟩
         have N1 := hid (And.intro ht1 hb1)
         clear ht1 hb1 NW)
      | (go_at_call 12
         refine (NT.out w1).mono ?_
         rintro e w2 ⟨rfl, hu2, hb2⟩
         have S3 := hid (show KS w ((w2.alloc (.cells #[.int .i64 n] 3)).alloc (.cells #[.int .i64 n, .slice (some ⟨w2.heap.size, 0, none⟩) 1 1] 40)) w1.heap.size (w2.heap.size + 1) n (.slice (some ⟨w2.heap.size, 0, none⟩) 1 1) .nil from by
           have b3 : Below w2.heap.size w2 ((w2.alloc (.cells #[.int .i64 n] 3)).alloc (.cells #[.int .i64 n, .slice (some ⟨w2.heap.size, 0, none⟩) 1 1] 40)) := (below_new _ _).alloc (by simp) _
           have hx := hp_new (w2.alloc (.cells #[.int .i64 n] 3)) (.cells #[.int .i64 n, .slice (some ⟨w2.heap.size, 0, none⟩) 1 1] 40)
           exact ⟨hp_below hu2 b3 (hp_lt hu2), by simpa using hx, (N1.out.1.below hb2).below b3, fun i hi => (by cases hi), below_on (below_on N1.out.2 hb2) b3, N1.out.2.size⟩)
         have P3 := hid (show Calls Try.prog 13 #[.pointer (some ⟨w.heap.size, 0, none⟩), .string key, .pointer (some ⟨w2.heap.size + 1, 0, none⟩)] ((w2.alloc (.cells #[.int .i64 n] 3)).alloc (.cells #[.int .i64 n, .slice (some ⟨w2.heap.size, 0, none⟩) 1 1] 40)) fun x w' => ∃ t', x = .returned (.tuple #[.pointer none, .bool false]) ∧ Vp.PutP ((w2.alloc (.cells #[.int .i64 n] 3)).alloc (.cells #[.int .i64 n, .slice (some ⟨w2.heap.size, 0, none⟩) 1 1] 40)) w' w.heap.size .nil t' key (.pointer (some ⟨w2.heap.size + 1, 0, none⟩)) from Vp.put_any w.heap.size key (some ⟨w2.heap.size + 1, 0, none⟩) .nil _ S3.out.tb (by decide) HK.out)
         clear hu2 hb2)
      | (go_at_call 13
         refine P3.out.mono ?_
         rintro e w4 ⟨t1, rfl, hp⟩
         have L1 := hid (show ∃ m, t1.toL = [(m, key, .pointer (some ⟨w2.heap.size + 1, 0, none⟩))] from by
           rcases hp.ls with ⟨c, hc, -⟩ | ⟨-, m, hm⟩
           · cases hc
           · exact ⟨m, hm⟩)
         have S4 := hid (S3.out.step hp.tb hp.kp hp.nw)
         have G4 := hid (show Calls Try.prog 14 #[.pointer (some ⟨w.heap.size, 0, none⟩), .string key] w4 fun x w' => x = .returned (.tuple #[.pointer (some ⟨w2.heap.size + 1, 0, none⟩), .bool true]) ∧ Below w4.heap.size w4 w' from by
           have := Vp.get_any (some ⟨w.heap.size, 0, none⟩) key t1 w4 (.inr ⟨_, rfl, S4.out.tb⟩)
           obtain ⟨m, hm⟩ := L1.out
           rw [getV_one hm, if_pos rfl] at this
           exact this)
         clear hp P3)
      | (go_at_call 14
         refine G4.out.mono ?_
         rintro e w5 ⟨rfl, hb5⟩
         have S5 := hid (S4.out.below hb5)
         have G5 := hid (show Calls Try.prog 14 #[.pointer (some ⟨w.heap.size, 0, none⟩), .string other] w5 fun x w' => x = .returned (.tuple #[.pointer (some ⟨w2.heap.size + 1, 0, none⟩), .bool true]) ∧ Below w5.heap.size w5 w' from by
           have := Vp.get_any (some ⟨w.heap.size, 0, none⟩) other t1 w5 (.inr ⟨_, rfl, S5.out.tb⟩)
           obtain ⟨m, hm⟩ := L1.out
           rw [getV_one hm, if_pos HE.out] at this
           exact this)
         clear hb5 G4)
      | (go_at_call 14
         with_reducible show Calls _ _ #[_, .string other] _ _
         refine G5.out.mono ?_
         rintro e w6 ⟨rfl, hb6⟩
         have S6 := hid (S5.out.below hb6)
         have P6 := hid (show Calls Try.prog 13 #[.pointer (some ⟨w.heap.size, 0, none⟩), .string key, .pointer none] w6 fun x w' => ∃ t' v, x = .returned v ∧ Hid ((∃ m, t'.toL = [(m, key, .pointer none)]) ∧ KS w w' w1.heap.size (w2.heap.size + 1) n (.slice (some ⟨w2.heap.size, 0, none⟩) 1 1) t') from by
           obtain ⟨m, hm⟩ := L1.out
           refine (Vp.put_any w.heap.size key none t1 w6 S6.out.tb (by unfold Vp.Tr.n; rw [hm]; simp) HK.out).mono ?_
           rintro x w' ⟨t', rfl, hp⟩
           refine ⟨t', _, rfl, hid ⟨?_, S6.out.step hp.tb hp.kp hp.nw⟩⟩
           rcases hp.ls with ⟨c, hc, hl⟩ | ⟨hc, -⟩
           · rw [hm, ent_one, if_pos rfl] at hc
             injection hc with hc
             subst hc
             rw [hm] at hl
             exact ⟨m, by rw [hl]; simp⟩
           · rw [hm, ent_one, if_pos rfl] at hc
             cases hc)
         clear hb6 G5)
      | (go_at_call 13
         refine P6.out.mono ?_
         rintro e w7 ⟨t2, v7, rfl, N7⟩
         have G7 := hid (show Calls Try.prog 14 #[.pointer (some ⟨w.heap.size, 0, none⟩), .string key] w7 fun x w' => x = .returned (.tuple #[.pointer none, .bool true]) ∧ Below w7.heap.size w7 w' from by
           have := Vp.get_any (some ⟨w.heap.size, 0, none⟩) key t2 w7 (.inr ⟨_, rfl, N7.out.2.tb⟩)
           obtain ⟨m, hm⟩ := N7.out.1
           rw [getV_one hm, if_pos rfl] at this
           exact this)
         clear P6)
      | (go_at_call 14
         refine G7.out.mono ?_
         rintro e w8 ⟨rfl, hb8⟩
         have S8 := hid (N7.out.2.below hb8)
         have D8 := hid (show Calls Try.prog 15 #[.pointer (some ⟨w.heap.size, 0, none⟩), .string key] w8 fun x w' => x = .returned (.tuple #[.pointer none, .bool true]) ∧ ∃ t', Hid (KS w w' w1.heap.size (w2.heap.size + 1) n (.slice (some ⟨w2.heap.size, 0, none⟩) 1 1) t' ∧ t'.toL = []) from by
           obtain ⟨m, hm⟩ := N7.out.1
           refine (Vp.delete_some w.heap.size key t2 w8 S8.out.tb (by unfold Vp.Tr.n; rw [hm]; simp) (b := m) (k := key) (v := .pointer none) (by rw [hm, ent_one, if_pos rfl])).mono ?_
           rintro x w' ⟨t', rfl, hd⟩
           refine ⟨rfl, t', hid ⟨S8.out.step hd.tb hd.kp (fun i hi => .inl (hd.nw i hi)), ?_⟩⟩
           rw [hd.ls, hm]
           simp [Vp.del])
         clear hb8 G7)
      | (go_at_call 15
         refine D8.out.mono ?_
         rintro e w9 ⟨rfl, t3, N9⟩
         have L9 := hid (show Calls Try.prog 16 #[.pointer (some ⟨w.heap.size, 0, none⟩)] w9 fun x w' => x = .returned (.int .i64 0) ∧ w' = w9 from by
           have := Vp.len_any (some ⟨w.heap.size, 0, none⟩) t3 w9 (.inr ⟨_, rfl, N9.out.1.tb⟩)
           have e : t3.n = 0 := by unfold Vp.Tr.n; rw [N9.out.2]; rfl
           rw [e] at this
           exact this)
         clear D8)
      | (go_at_call 16
         refine L9.out.mono ?_
         rintro e w9' ⟨rfl, e9⟩
         rw [e9]
         clear e9 w9')
      | (go_at_call 17
         refine (putT w1.heap.size key n (some ⟨w9.heap.size, 0, none⟩) 1 4 (w9.alloc (.cells #[.int .i64 0, .int .i64 0, .int .i64 0, .int .i64 0] 3)) (hp_alloc N9.out.1.hu _) HK.out).mono ?_
         rintro e w11 ⟨⟨v11, rfl⟩, b, hU, hK11, hb11⟩
         have G11 := hid (getT1 w1.heap.size b key n (some ⟨w9.heap.size, 0, none⟩) 1 4 w11 hU)
         have N11 := hid (ks_put N9.out.1 hU hK11)
         clear hU hK11 hb11)
      | (go_at_call 18
         with_reducible show Calls _ _ #[_, .string key] _ _
         refine G11.out.mono ?_
         rintro e w12 ⟨rfl, hb12⟩
         have N12 := hid (show U1 w12 w1.heap.size b key n (.slice (some ⟨w9.heap.size, 0, none⟩) 1 4) ∧ w12.heap[w9.heap.size]? = some (.cells #[.int .i64 0, .int .i64 0, .int .i64 0, .int .i64 0] 3 (0, 0)) ∧ w12.heap[w2.heap.size + 1]? = some (.cells #[.int .i64 n, .slice (some ⟨w2.heap.size, 0, none⟩) 1 1] 40 (0, 0)) ∧ Below w.heap.size w w12 from ⟨N11.out.1.below hb12, hp_below N11.out.2.1 hb12 (hp_lt N11.out.2.1), hp_below N11.out.2.2.1 hb12 (hp_lt N11.out.2.2.1), below_on N11.out.2.2.2 hb12⟩)
         have c4 : w12.cell? ⟨w9.heap.size, 0, none⟩ = some (.int .i64 0) := by rw [cell_of_row w12 w9.heap.size _ _ _ _ N12.out.2.1]; rfl
         have f4 : ∀ j, w12.frozen? ⟨w9.heap.size, j, none⟩ = false := fun j => free_of_block N12.out.2.1
         have z4 : w9.heap.size < w12.heap.size := hp_lt N12.out.2.1
         have N14 := hid (ks_last N12.out N9.out.1.bl.size (.int .i64 n) (.cells #[.int .i64 n, .slice (some ⟨w9.heap.size, 0, none⟩) 1 4] 40))
         clear hb12 G11)
      | (go_at_call 18
         refine (getT2 w1.heap.size b key _ n _ _ N14.out.1 (longer other key)).mono ?_
         rintro e w15 ⟨rfl, hb15⟩
         have hx15 := hp_below N14.out.2.1 hb15 (hp_lt N14.out.2.1)
         obtain ⟨x0, -⟩ := cells2 hx15
         obtain ⟨x0a, -⟩ := cells2 (hp_alloc hx15 (.cells #[.int .i64 0, .slice none 0 0] 40))
         have B15 := hid (below_on N14.out.2.2 hb15)
         clear hb15 hx15)
      | (go_at_call 10
         refine (KN.out _).mono ?_
         rintro e w16 ⟨rfl, hb16⟩
         have B16 := hid hb16
         clear hb16))
    go_ret
    exact ⟨rfl, below_on (below_on B15.out (below_new _ _)) B16.out⟩
  · have b0 : (other.toList == key.toList) = false := keq_false (fun e => he e.symm)
    have HE := hid he
    clear he
    go_enter Try.func4, Try.ntmps4
    go_wp2_with (first
      | (go_at_call 11
         refine NW.out.mono ?_
         rintro e w1 ⟨rfl, ht1, hb1, -⟩
         have N1 := hid (And.intro ht1 hb1)
         clear ht1 hb1 NW)
      | (go_at_call 12
         refine (NT.out w1).mono ?_
         rintro e w2 ⟨rfl, hu2, hb2⟩
         have S3 := hid (show KS w ((w2.alloc (.cells #[.int .i64 n] 3)).alloc (.cells #[.int .i64 n, .slice (some ⟨w2.heap.size, 0, none⟩) 1 1] 40)) w1.heap.size (w2.heap.size + 1) n (.slice (some ⟨w2.heap.size, 0, none⟩) 1 1) .nil from by
           have b3 : Below w2.heap.size w2 ((w2.alloc (.cells #[.int .i64 n] 3)).alloc (.cells #[.int .i64 n, .slice (some ⟨w2.heap.size, 0, none⟩) 1 1] 40)) := (below_new _ _).alloc (by simp) _
           have hx := hp_new (w2.alloc (.cells #[.int .i64 n] 3)) (.cells #[.int .i64 n, .slice (some ⟨w2.heap.size, 0, none⟩) 1 1] 40)
           exact ⟨hp_below hu2 b3 (hp_lt hu2), by simpa using hx, (N1.out.1.below hb2).below b3, fun i hi => (by cases hi), below_on (below_on N1.out.2 hb2) b3, N1.out.2.size⟩)
         have P3 := hid (show Calls Try.prog 13 #[.pointer (some ⟨w.heap.size, 0, none⟩), .string key, .pointer (some ⟨w2.heap.size + 1, 0, none⟩)] ((w2.alloc (.cells #[.int .i64 n] 3)).alloc (.cells #[.int .i64 n, .slice (some ⟨w2.heap.size, 0, none⟩) 1 1] 40)) fun x w' => ∃ t', x = .returned (.tuple #[.pointer none, .bool false]) ∧ Vp.PutP ((w2.alloc (.cells #[.int .i64 n] 3)).alloc (.cells #[.int .i64 n, .slice (some ⟨w2.heap.size, 0, none⟩) 1 1] 40)) w' w.heap.size .nil t' key (.pointer (some ⟨w2.heap.size + 1, 0, none⟩)) from Vp.put_any w.heap.size key (some ⟨w2.heap.size + 1, 0, none⟩) .nil _ S3.out.tb (by decide) HK.out)
         clear hu2 hb2)
      | (go_at_call 13
         refine P3.out.mono ?_
         rintro e w4 ⟨t1, rfl, hp⟩
         have L1 := hid (show ∃ m, t1.toL = [(m, key, .pointer (some ⟨w2.heap.size + 1, 0, none⟩))] from by
           rcases hp.ls with ⟨c, hc, -⟩ | ⟨-, m, hm⟩
           · cases hc
           · exact ⟨m, hm⟩)
         have S4 := hid (S3.out.step hp.tb hp.kp hp.nw)
         have G4 := hid (show Calls Try.prog 14 #[.pointer (some ⟨w.heap.size, 0, none⟩), .string key] w4 fun x w' => x = .returned (.tuple #[.pointer (some ⟨w2.heap.size + 1, 0, none⟩), .bool true]) ∧ Below w4.heap.size w4 w' from by
           have := Vp.get_any (some ⟨w.heap.size, 0, none⟩) key t1 w4 (.inr ⟨_, rfl, S4.out.tb⟩)
           obtain ⟨m, hm⟩ := L1.out
           rw [getV_one hm, if_pos rfl] at this
           exact this)
         clear hp P3)
      | (go_at_call 14
         refine G4.out.mono ?_
         rintro e w5 ⟨rfl, hb5⟩
         have S5 := hid (S4.out.below hb5)
         have G5 := hid (show Calls Try.prog 14 #[.pointer (some ⟨w.heap.size, 0, none⟩), .string other] w5 fun x w' => x = .returned (.tuple #[.pointer none, .bool false]) ∧ Below w5.heap.size w5 w' from by
           have := Vp.get_any (some ⟨w.heap.size, 0, none⟩) other t1 w5 (.inr ⟨_, rfl, S5.out.tb⟩)
           obtain ⟨m, hm⟩ := L1.out
           rw [getV_one hm, if_neg HE.out] at this
           exact this)
         clear hb5 G4)
      | (go_at_call 14
         with_reducible show Calls _ _ #[_, .string other] _ _
         refine G5.out.mono ?_
         rintro e w6 ⟨rfl, hb6⟩
         have S6 := hid (S5.out.below hb6)
         have P6 := hid (show Calls Try.prog 13 #[.pointer (some ⟨w.heap.size, 0, none⟩), .string key, .pointer none] w6 fun x w' => ∃ t' v, x = .returned v ∧ Hid ((∃ m, t'.toL = [(m, key, .pointer none)]) ∧ KS w w' w1.heap.size (w2.heap.size + 1) n (.slice (some ⟨w2.heap.size, 0, none⟩) 1 1) t') from by
           obtain ⟨m, hm⟩ := L1.out
           refine (Vp.put_any w.heap.size key none t1 w6 S6.out.tb (by unfold Vp.Tr.n; rw [hm]; simp) HK.out).mono ?_
           rintro x w' ⟨t', rfl, hp⟩
           refine ⟨t', _, rfl, hid ⟨?_, S6.out.step hp.tb hp.kp hp.nw⟩⟩
           rcases hp.ls with ⟨c, hc, hl⟩ | ⟨hc, -⟩
           · rw [hm, ent_one, if_pos rfl] at hc
             injection hc with hc
             subst hc
             rw [hm] at hl
             exact ⟨m, by rw [hl]; simp⟩
           · rw [hm, ent_one, if_pos rfl] at hc
             cases hc)
         clear hb6 G5)
      | (go_at_call 13
         refine P6.out.mono ?_
         rintro e w7 ⟨t2, v7, rfl, N7⟩
         have G7 := hid (show Calls Try.prog 14 #[.pointer (some ⟨w.heap.size, 0, none⟩), .string key] w7 fun x w' => x = .returned (.tuple #[.pointer none, .bool true]) ∧ Below w7.heap.size w7 w' from by
           have := Vp.get_any (some ⟨w.heap.size, 0, none⟩) key t2 w7 (.inr ⟨_, rfl, N7.out.2.tb⟩)
           obtain ⟨m, hm⟩ := N7.out.1
           rw [getV_one hm, if_pos rfl] at this
           exact this)
         clear P6)
      | (go_at_call 14
         refine G7.out.mono ?_
         rintro e w8 ⟨rfl, hb8⟩
         have S8 := hid (N7.out.2.below hb8)
         have D8 := hid (show Calls Try.prog 15 #[.pointer (some ⟨w.heap.size, 0, none⟩), .string key] w8 fun x w' => x = .returned (.tuple #[.pointer none, .bool true]) ∧ ∃ t', Hid (KS w w' w1.heap.size (w2.heap.size + 1) n (.slice (some ⟨w2.heap.size, 0, none⟩) 1 1) t' ∧ t'.toL = []) from by
           obtain ⟨m, hm⟩ := N7.out.1
           refine (Vp.delete_some w.heap.size key t2 w8 S8.out.tb (by unfold Vp.Tr.n; rw [hm]; simp) (b := m) (k := key) (v := .pointer none) (by rw [hm, ent_one, if_pos rfl])).mono ?_
           rintro x w' ⟨t', rfl, hd⟩
           refine ⟨rfl, t', hid ⟨S8.out.step hd.tb hd.kp (fun i hi => .inl (hd.nw i hi)), ?_⟩⟩
           rw [hd.ls, hm]
           simp [Vp.del])
         clear hb8 G7)
      | (go_at_call 15
         refine D8.out.mono ?_
         rintro e w9 ⟨rfl, t3, N9⟩
         have L9 := hid (show Calls Try.prog 16 #[.pointer (some ⟨w.heap.size, 0, none⟩)] w9 fun x w' => x = .returned (.int .i64 0) ∧ w' = w9 from by
           have := Vp.len_any (some ⟨w.heap.size, 0, none⟩) t3 w9 (.inr ⟨_, rfl, N9.out.1.tb⟩)
           have e : t3.n = 0 := by unfold Vp.Tr.n; rw [N9.out.2]; rfl
           rw [e] at this
           exact this)
         clear D8)
      | (go_at_call 16
         refine L9.out.mono ?_
         rintro e w9' ⟨rfl, e9⟩
         rw [e9]
         clear e9 w9')
      | (go_at_call 17
         refine (putT w1.heap.size key n (some ⟨w9.heap.size, 0, none⟩) 1 4 (w9.alloc (.cells #[.int .i64 0, .int .i64 0, .int .i64 0, .int .i64 0] 3)) (hp_alloc N9.out.1.hu _) HK.out).mono ?_
         rintro e w11 ⟨⟨v11, rfl⟩, b, hU, hK11, hb11⟩
         have G11 := hid (getT1 w1.heap.size b key n (some ⟨w9.heap.size, 0, none⟩) 1 4 w11 hU)
         have N11 := hid (ks_put N9.out.1 hU hK11)
         clear hU hK11 hb11)
      | (go_at_call 18
         with_reducible show Calls _ _ #[_, .string key] _ _
         refine G11.out.mono ?_
         rintro e w12 ⟨rfl, hb12⟩
         have N12 := hid (show U1 w12 w1.heap.size b key n (.slice (some ⟨w9.heap.size, 0, none⟩) 1 4) ∧ w12.heap[w9.heap.size]? = some (.cells #[.int .i64 0, .int .i64 0, .int .i64 0, .int .i64 0] 3 (0, 0)) ∧ w12.heap[w2.heap.size + 1]? = some (.cells #[.int .i64 n, .slice (some ⟨w2.heap.size, 0, none⟩) 1 1] 40 (0, 0)) ∧ Below w.heap.size w w12 from ⟨N11.out.1.below hb12, hp_below N11.out.2.1 hb12 (hp_lt N11.out.2.1), hp_below N11.out.2.2.1 hb12 (hp_lt N11.out.2.2.1), below_on N11.out.2.2.2 hb12⟩)
         have c4 : w12.cell? ⟨w9.heap.size, 0, none⟩ = some (.int .i64 0) := by rw [cell_of_row w12 w9.heap.size _ _ _ _ N12.out.2.1]; rfl
         have f4 : ∀ j, w12.frozen? ⟨w9.heap.size, j, none⟩ = false := fun j => free_of_block N12.out.2.1
         have z4 : w9.heap.size < w12.heap.size := hp_lt N12.out.2.1
         have N14 := hid (ks_last N12.out N9.out.1.bl.size (.int .i64 n) (.cells #[.int .i64 n, .slice (some ⟨w9.heap.size, 0, none⟩) 1 4] 40))
         clear hb12 G11)
      | (go_at_call 18
         refine (getT2 w1.heap.size b key _ n _ _ N14.out.1 (longer other key)).mono ?_
         rintro e w15 ⟨rfl, hb15⟩
         have hx15 := hp_below N14.out.2.1 hb15 (hp_lt N14.out.2.1)
         obtain ⟨x0, -⟩ := cells2 hx15
         obtain ⟨x0a, -⟩ := cells2 (hp_alloc hx15 (.cells #[.int .i64 0, .slice none 0 0] 40))
         have B15 := hid (below_on N14.out.2.2 hb15)
         clear hb15 hx15)
      | (go_at_call 10
         refine (KN.out _).mono ?_
         rintro e w16 ⟨rfl, hb16⟩
         have B16 := hid hb16
         clear hb16))
    go_ret
    exact ⟨rfl, below_on (below_on B15.out (below_new _ _)) B16.out⟩

end Go.Proofs.Ytkalppcekmlgbab
