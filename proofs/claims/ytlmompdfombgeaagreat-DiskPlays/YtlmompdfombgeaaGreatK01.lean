import Derived.Test.YtlmompdfombgeaaGreatRows
import Derived.WalkKit
import Derived.WalkSpells
import Derived.WalkLawsBesides
import Derived.Deep.RegionHeld3
import Derived.Deep.AppendLies
import Derived.Deep.DrawnRows
import Derived.Deep.QuietTactic
import Derived.BigQuiet
import Derived.Laws.CopyOwn
import Derived.Laws.BytesArg
import Derived.Maps.OwnSet
import Derived.Maps.OwnOps
import Derived.Maps.RangeWalk
import Derived.Laws.IdiomRangeMap
import Derived.Deep.AppendSrc
import Derived.ArgAppend
import Derived.Laws.AppendOwnNone
import Derived.Maps.AppendAt
import Derived.Laws.OwnMore
import Derived.Deep.RegionLaw
namespace Go.Proofs.YtlmompdfombgeaaGreat
open Go.RowKit

theorem hid {p : Prop} (h : p) : Hid p := h

/-- All blocks outside S are as they were. -/
structure Kept (S : Nat → Prop) (w w' : World) : Prop where
  os : w'.os = w.os
  tape : w'.tape = w.tape
  output : w'.output = w.output
  size : w.heap.size ≤ w'.heap.size
  block : ∀ k, k < w.heap.size → ¬ S k → w'.heap[k]? = w.heap[k]?

theorem Kept.refl (S : Nat → Prop) (w : World) : Kept S w w := ⟨rfl, rfl, rfl, Nat.le_refl _, fun _ _ _ => rfl⟩

theorem Kept.trans {S S' : Nat → Prop} {a b c : World} (h : Kept S a b) (k : Kept S' b c) (hs : ∀ i, i < a.heap.size → S' i → S i) : Kept S a c :=
  ⟨k.os.trans h.os, k.tape.trans h.tape, k.output.trans h.output, Nat.le_trans h.size k.size,
   fun i hi hn => (k.block i (Nat.lt_of_lt_of_le hi h.size) (fun hx => hn (hs i hi hx))).trans (h.block i hi hn)⟩

theorem Kept.mono {S S' : Nat → Prop} {a b : World} (h : Kept S a b) (hs : ∀ i, i < a.heap.size → S i → S' i) : Kept S' a b :=
  ⟨h.os, h.tape, h.output, h.size, fun i hi hn => h.block i hi (fun hx => hn (hs i hi hx))⟩

theorem Kept.drew {S : Nat → Prop} {a w : World} (h : Kept S a w) : Kept S a w.drew := ⟨h.os, h.tape, h.output, h.size, h.block⟩

theorem Kept.alloc {S : Nat → Prop} {a w : World} (h : Kept S a w) (o : Obj) : Kept S a (w.alloc o) :=
  h.trans (S' := fun _ => False) ⟨rfl, rfl, rfl, by simp, fun k hk _ => Below.heap_alloc _ _ _ hk⟩ (fun _ _ h => h.elim)

theorem Kept.setCell {S : Nat → Prop} {a w : World} (h : Kept S a w) {p : Addr} (hp : p.block < a.heap.size → S p.block) (u : Value) : Kept S a (w.setCell p u) :=
  h.trans (S' := fun k => k = p.block) ⟨rfl, rfl, rfl, by simp [World.setCell], fun k _ hn => Below.heap_setCell _ _ _ _ hn⟩ (fun i hi e => by subst e; exact hp hi)

theorem Kept.grown {S : Nat → Prop} {a w w' : World} {row : Option Nat} (h : Kept S a w) (hg : w.grownBy w' row) (hr : ∀ k, k < a.heap.size → row = some k → S k) : Kept S a w' :=
  h.trans (S' := fun k => row = some k) ⟨hg.os, hg.tape, hg.output, hg.size, fun k hk hn => hg.block k hk (fun e => hn e.symm)⟩ hr

theorem Kept.below {S : Nat → Prop} {a w : World} {B : Nat} (h : Kept S a w) (hB : B ≤ a.heap.size) (hs : ∀ k, k < B → ¬ S k) : Below B a w :=
  ⟨h.os, h.tape, h.output, h.size, fun k hk => h.block k (Nat.lt_of_lt_of_le hk hB) (hs k hk)⟩

theorem Kept.ofBelow {a w : World} (h : Below a.heap.size a w) : Kept (fun _ => False) a w :=
  ⟨h.os, h.tape, h.output, h.size, fun k hk _ => h.block k hk⟩

theorem Kept.cell {S : Nat → Prop} {a w : World} (h : Kept S a w) {p : Addr} {v : Value} (hc : a.cell? p = some v) (hn : ¬ S p.block) : w.cell? p = some v :=
  (World.cell?_of_block (h.block p.block (World.block_lt_of_cell? a p hc) hn)).trans hc

/-- The cells of bytes. -/
abbrev B8 (l : List Int) : List Value := l.map (Value.int .u8)

theorem Tryz.info5 : (Tryz.prog.info? 5).map (fun i => (i.zero, i.size, i.bytes)) = some (some (.int .u8 0), 1, 1) := by kernel_rfl

theorem ownsRow_kept {w w' : World} {B : Nat} {e : TypeId} {size : Nat} {v : Value} {n : Nat} {xs : List Value} {S : Nat → Prop} (h : w.ownsRow B e size v n xs) (hk : Kept S w w')
    (hn : ∀ k, v.ownBlock = some k → ¬ S k) : w'.ownsRow B e size v n xs := by
  refine ⟨h.1, ?_⟩
  rcases h.2 with hn' | ⟨g, cap, cur, rfl, hb, hgg, rest⟩
  · exact .inl hn'
  · refine .inr ⟨g, cap, cur, rfl, hb, ?_, rest⟩
    rw [hk.block g (Array.getElem?_eq_some_iff.1 hgg).1 (hn g rfl)]
    exact hgg

theorem free_of_block {w : World} {p o : Nat} {cs : Array Value} {t : TypeId} (h : w.heap[p]? = some (.cells cs t (0, 0))) : w.frozen? ⟨p, o, none⟩ = false := by
  simp [World.frozen?, h]

end Go.Proofs.YtlmompdfombgeaaGreat

namespace Go.Proofs.YtlmompdfombgeaaGreat
open Go.RowKit

/-- v is a slice whose elements are the bytes bs. -/
def Sl (w : World) (v : Value) (bs : List Int) : Prop :=
  ∃ ao cap, v = .slice ao bs.length cap ∧ bs.length ≤ cap ∧ (bs ≠ [] → ∃ b off, ao = some ⟨b, off, none⟩ ∧ ∀ j x, bs[j]? = some x → w.cell? ⟨b, off + j, none⟩ = some (.int .u8 x))

theorem add_lit (b off j : Nat) : (⟨b, off, none⟩ : Addr).add j = ⟨b, off + j, none⟩ := by
  unfold Addr.add; split <;> simp_all

theorem sl_of_owns {w : World} {B : Nat} {v : Value} {bs : List Int} {n : Nat} (h : w.ownsRow B 5 1 v n (B8 bs)) : Sl w v bs := by
  have hl : n = bs.length := by have := h.1; simp at this; omega
  subst hl
  rcases h.2 with ⟨rfl, h0⟩ | ⟨g, cap, cur, rfl, hb, hg, hc, _, hs, ht⟩
  · have : bs = [] := List.eq_nil_of_length_eq_zero h0
    subst this
    exact ⟨none, 0, rfl, Nat.le_refl _, fun h => absurd rfl h⟩
  · refine ⟨_, cap, rfl, hc, fun _ => ⟨g, 0, rfl, ?_⟩⟩
    intro j x hx
    have := h.cells (g := g) rfl j (.int .u8 x) (by simp [B8, hx])
    rwa [add_lit] at this

theorem Sl.kept {w w' : World} {v : Value} {bs : List Int} {S : Nat → Prop} (h : Sl w v bs) (hk : Kept S w w') (hn : ∀ k, v.ownBlock = some k → ¬ S k) : Sl w' v bs := by
  obtain ⟨ao, cap, rfl, hc, hx⟩ := h
  refine ⟨ao, cap, rfl, hc, fun hne => ?_⟩
  obtain ⟨b, off, rfl, hj⟩ := hx hne
  exact ⟨b, off, rfl, fun j x e => hk.cell (hj j x e) (hn b rfl)⟩

theorem Sl.below {w w' : World} {v : Value} {bs : List Int} (h : Sl w v bs) (hk : Below w.heap.size w w') : Sl w' v bs :=
  h.kept (Kept.ofBelow hk) (fun _ _ h => h)

/-- A slice of its own, whole in block g. -/
def Own (w : World) (g : Nat) (bs : List Int) : Prop := w.heap[g]? = some (.cells (B8 bs).toArray 5 (0, 0))

theorem Own.owns {w : World} {g : Nat} {bs : List Int} {B : Nat} (h : Own w g bs) (hB : B ≤ g) (hl : bs.length ≤ maxLen) : w.ownsRow B 5 1 (.slice (some ⟨g, 0, none⟩) bs.length bs.length) bs.length (B8 bs) := by
  refine ⟨by simp, .inr ⟨g, bs.length, _, rfl, hB, h, Nat.le_refl _, hl, by simp, ?_⟩⟩
  rw [List.take_of_length_le (by simp)]

set_option maxRecDepth 100000 in
set_option maxHeartbeats 800000 in
theorem copied_any (v : Value) (bs : List Int) (w : World) (h : Sl w v bs) (hl : bs.length ≤ 1000000000) :
    Calls Tryz.prog 71 #[v] w fun x w' => x = .returned (.slice (some ⟨w.heap.size, 0, none⟩) bs.length bs.length) ∧ Own w' w.heap.size bs ∧ Below w.heap.size w w' := by
  obtain ⟨i0, hi, hz0, hz1, hz2⟩ := info_parts Tryz.info5
  obtain ⟨ao, cap, rfl, hc, hx⟩ := h
  have hsz : (Tryz.prog.info? 5).map (·.size) = some 1 := by rw [hi]; simp [hz1]
  have Hx : Hid _ := hx
  clear hx
  go_enter Tryz.func71, Tryz.ntmps71
  go_wp2_with (at_make; refine wpList_make_full _ rfl _ _ 35 rfl w.heap.size 5 i0 (.int .u8 0) 1 Tryz.underlying35 hi hz0 hz1 _ _ _ _ bs.length rfl rfl rfl rfl (by rw [hz2]; omega) (by unfold maxLen; omega) (Nat.le_refl _) ?_)
  intro w1 ho hg
  have hbel : Below w.heap.size w w1 := (Below.refl _ _).grown hg (Nat.le_refl _) (by intro k hk; cases hk)
  have hrow : ∃ cur : List Value, w1.heap[w.heap.size]? = some (.cells cur.toArray 5 (0, 0)) ∧ cur.length = bs.length := by
    rcases ho.2 with ⟨h1, _⟩ | ⟨g, cp, cur, h1, _, h2, _, _, h3, _⟩
    · cases h1
    · simp at h1
      obtain ⟨rfl, rfl⟩ := h1
      exact ⟨cur.toList, by simpa using h2, by simpa using h3⟩
  obtain ⟨cur, hcur, hcl⟩ := hrow
  have Hl : Hid _ := hcl
  clear ho hg hcl
  go_wp2_with (refine wpList_copy_splice (by rfl) (.tmp 7) (.tmp 8) 35 35 rfl 5 Tryz.underlying35 hsz _ _ _ _ _ _ rfl rfl w.heap.size 0 cur 5 hcur (B8 bs) (by simp) ?hpos (by rw [Hl.out]; simp) (by intro u hu; obtain ⟨_, _, rfl⟩ := List.mem_map.1 hu; rfl) w.heap.size w hbel (Nat.le_refl _) ?_)
  case hpos =>
    intro hp
    have hne : bs ≠ [] := by intro e; subst e; simp at hp
    obtain ⟨b, off, rfl, hj⟩ := Hx.out hne
    refine ⟨_, rfl, ?_⟩
    intro j u hu
    rw [add_lit]
    have := hj j u hu
    exact (hbel.cell (World.block_lt_of_cell? _ _ this)).trans this
  intro w2 hg2 hb2
  go_wp2
  go_ret
  refine ⟨rfl, ?_, hb2⟩
  have := hg2.out
  unfold Own
  rw [this]
  congr 3
  have := Hl.out
  simp [splice]
  omega

end Go.Proofs.YtlmompdfombgeaaGreat

namespace Go.Proofs.YtlmompdfombgeaaGreat
open Go.RowKit

theorem Tryz.elem35 : Tryz.prog.underlying 35 = some (.slice (Tryz.prog.elem 35)) := by kernel_rfl
theorem Tryz.elemIs : Tryz.prog.elem 35 = 5 := by kernel_rfl
theorem size5 (w : World) : (sizeOf (Tryz.prog.elem 35)).run Tryz.prog w = .ok 1 w := by
  obtain ⟨i0, hi, hz0, hz1, hz2⟩ := info_parts Tryz.info5
  rw [Tryz.elemIs]
  simp [sizeOf, typeInfo, hi, hz1]

theorem sl_sliced {w : World} {ao : Option Addr} {bs : List Int} {cap : Nat} (hc : bs.length ≤ cap) (hx : bs ≠ [] → ∃ b off, ao = some ⟨b, off, none⟩ ∧ ∀ j x, bs[j]? = some x → w.cell? ⟨b, off + j, none⟩ = some (.int .u8 x))
    (lo hi : Nat) (h1 : lo ≤ hi) (h2 : hi ≤ bs.length) : Sl w (sliced ao lo hi cap 1) ((bs.drop lo).take (hi - lo)) := by
  have hl : ((bs.drop lo).take (hi - lo)).length = hi - lo := by simp; omega
  refine ⟨(if cap = lo then ao else ao.map (·.add (lo * 1))), cap - lo, by rw [hl]; rfl, by rw [hl]; omega, ?_⟩
  intro hne
  have hlt : lo < hi := by
    rcases Nat.lt_or_ge lo hi with h | h
    · exact h
    · exfalso; apply hne; apply List.eq_nil_of_length_eq_zero; rw [hl]; omega
  obtain ⟨b, off, rfl, hj⟩ := hx (by intro e; subst e; simp at h2; omega)
  refine ⟨b, off + lo, ?_, ?_⟩
  · rw [if_neg (by omega)]; simp [add_lit]
  · intro j x hx2
    rw [List.getElem?_take] at hx2
    split at hx2
    · rw [List.getElem?_drop] at hx2
      rw [Nat.add_assoc]
      exact hj (lo + j) x hx2
    · cases hx2

theorem sliced_own (ao : Option Addr) (n cap lo hi c : Nat) : ∀ k, (sliced ao lo hi cap 1).ownBlock = some k → (Value.slice ao n c).ownBlock = some k := by
  intro k hk
  cases ao with
  | none => unfold sliced at hk; split at hk <;> simp [Value.ownBlock] at hk
  | some a =>
    unfold sliced at hk
    split at hk
    · simpa [Value.ownBlock] using hk
    · simp only [Option.map_some, Value.ownBlock] at hk ⊢
      rw [← hk]
      unfold Addr.add
      split <;> rfl

theorem sl_from {w : World} {v : Value} {bs : List Int} (h : Sl w v bs) (lo : Nat) (h1 : lo ≤ bs.length) :
    ∃ rv, (∀ wx : World, (Instr.slice 35 v (some (.int .i64 lo)) none none).run Tryz.prog wx = .ok rv wx) ∧ Sl w rv (bs.drop lo) ∧ (∀ k, rv.ownBlock = some k → v.ownBlock = some k) := by
  obtain ⟨ao, cap, rfl, hc, hx⟩ := h
  refine ⟨sliced ao lo bs.length cap 1, ?_, ?_, sliced_own ao _ cap lo _ _⟩
  · intro wx
    rw [run_slice_l wx 35 ao bs.length cap Tryz.elem35 .i64 lo (by omega) (by omega), size5]
    rfl
  · have := sl_sliced hc hx lo bs.length h1 (Nat.le_refl _)
    rwa [List.take_of_length_le (by simp)] at this

theorem Sl.drewN {w : World} {v : Value} {bs : List Int} (h : Sl w v bs) (n : Nat) : Sl (w.drewN n) v bs := by
  obtain ⟨ao, cap, rfl, hc, hx⟩ := h
  refine ⟨ao, cap, rfl, hc, fun hne => ?_⟩
  obtain ⟨b, off, rfl, hj⟩ := hx hne
  exact ⟨b, off, rfl, fun j x e => by simpa using hj j x e⟩

end Go.Proofs.YtlmompdfombgeaaGreat

namespace Go.Proofs.YtlmompdfombgeaaGreat
open Go.RowKit Go.MapKept

/-- The world with another object in block r. -/
def puts (w : World) (r : Nat) (o : Obj) : World := { w with heap := w.heap.setIfInBounds r o }

theorem puts_same {w : World} {r : Nat} {o o' : Obj} (hb : w.heap[r]? = some o) : (puts w r o').heap[r]? = some o' := (heap_set hb).1
theorem puts_other (w : World) {r k : Nat} (o' : Obj) (h : k ≠ r) : (puts w r o').heap[k]? = w.heap[k]? := by
  simp [puts, Ne.symm h]
theorem puts_size (w : World) (r : Nat) (o' : Obj) : (puts w r o').heap.size = w.heap.size := by simp [puts]
theorem puts_grown (w : World) (r : Nat) (o' : Obj) : w.grownBy (puts w r o') (some r) :=
  ⟨rfl, rfl, rfl, by simp [puts], fun k _ hk => puts_other w o' (fun e => hk (by rw [e]))⟩
theorem Kept.puts {S : Nat → Prop} {a w : World} (h : Kept S a w) {r : Nat} (hp : r < a.heap.size → S r) (o' : Obj) : Kept S a (puts w r o') :=
  h.grown (puts_grown w r o') (fun k hk e => by cases e; exact hp hk)

/-- What a look-up finds. -/
theorem look_found {w : World} {t k e : TypeId} {d : TypeDesc} (ht : Tryz.prog.underlying t = some (.map k e)) (hk : Tryz.prog.underlying k = some d) {b : Nat} {es : Array MapEntry} {c : Nat} (hb : w.heap[b]? = some (.map es c)) {key : Value} (hi : IsKey d key) {i : Nat} {v : Value}
    (hf : Instr.findNow d key es.toList 0 = some (some (i, v))) (ok : Bool) : (Instr.lookup t (.map (some b)) key ok).run Tryz.prog w = .ok (if ok then .tuple #[v, .bool true] else v) w := by
  simp only [Instr.lookup, Sem.run_bind, run_underlying ht, Result.andThen, MapKept.run_getObj_map hb, Sem.run_pure, MapKept.run_checkKey hk hi, run_findKey hk hf]

theorem look_none {w : World} {t k e : TypeId} {d : TypeDesc} (ht : Tryz.prog.underlying t = some (.map k e)) (hk : Tryz.prog.underlying k = some d) {b : Nat} {es : Array MapEntry} {c : Nat} (hb : w.heap[b]? = some (.map es c)) {key : Value} (hi : IsKey d key) {z : Value} (hz : (zeroValue e).run Tryz.prog w = .ok z w)
    (hf : Instr.findNow d key es.toList 0 = some none) (ok : Bool) : (Instr.lookup t (.map (some b)) key ok).run Tryz.prog w = .ok (if ok then .tuple #[z, .bool false] else z) w := by
  simp only [Instr.lookup, Sem.run_bind, run_underlying ht, Result.andThen, MapKept.run_getObj_map hb, Sem.run_pure, MapKept.run_checkKey hk hi, run_findKey hk hf, hz]

theorem look_nil {w : World} {t k e : TypeId} {d : TypeDesc} (ht : Tryz.prog.underlying t = some (.map k e)) (hk : Tryz.prog.underlying k = some d) {key : Value} (hi : IsKey d key) {z : Value} (hz : (zeroValue e).run Tryz.prog w = .ok z w)
    (ok : Bool) : (Instr.lookup t (.map none) key ok).run Tryz.prog w = .ok (if ok then .tuple #[z, .bool false] else z) w := by
  have hf : Instr.findNow d key (#[] : Array MapEntry).toList 0 = some none := rfl
  simp only [Instr.lookup, Sem.run_bind, run_underlying ht, Result.andThen, Sem.run_pure, MapKept.run_checkKey hk hi, run_findKey hk hf, hz]

/-- m[k] = v, the key being new. -/
theorem upd_new {w : World} {t k e : TypeId} {d : TypeDesc} (ht : Tryz.prog.underlying t = some (.map k e)) (hk : Tryz.prog.underlying k = some d) {b : Nat} {es : Array MapEntry} {c : Nat} (hb : w.heap[b]? = some (.map es c)) {key : Value} (hi : IsKey d key) (v : Value)
    (hf : Instr.findNow d key es.toList 0 = some none) : (Instr.mapUpdate t (.map (some b)) key v).run Tryz.prog w = .ok () (puts w b (.map (es.push { key := key, val := v, born := c }) (c + 1))) := by
  simp only [Instr.mapUpdate, Sem.run_bind, run_underlying ht, Result.andThen, MapKept.run_getObj_map hb, MapKept.run_checkKey hk hi, run_findKey hk hf, MapKept.run_setObj_map _ hb, puts]

theorem wpList_upd_new (w : World) {ops : Array Oper} {rest : List Oper} {o : Oper} {a : Act} {Q : Exit → Act → World → Prop}
    (hg : o.guard = none) (m x v : Operand) (t : TypeId) (hop : o.op = Op.mapUpdate t m x v)
    (k e : TypeId) (d : TypeDesc) (ht : Tryz.prog.underlying t = some (.map k e)) (hk : Tryz.prog.underlying k = some d) (b : Nat) (es : Array MapEntry) (c : Nat)
    (hm : a.eval m = .map (some b)) (hb : w.heap[b]? = some (.map es c)) (key val : Value) (hx : a.eval x = key) (hv : a.eval v = val) (hi : IsKey d key) (hf : Instr.findNow d key es.toList 0 = some none)
    (hK : ∀ w', Hid (w'.heap[b]? = some (.map (es.push { key := key, val := val, born := c }) (c + 1))) → Hid (w.grownBy w' (some b)) → Hid (w'.heap.size = w.heap.size) → wpList Tryz.prog ops Q rest (a.put o.dst undef) w') :
    wpList Tryz.prog ops Q (o :: rest) a w := by
  refine wpList_plain hg fun K' hK' => ?_
  have hrun := upd_new ht hk hb hi val hf
  unfold Oper.wp
  simp only [execOp, hop, hm, hx, hv, Sem.run_bind, hrun, Result.andThen, Sem.run_pure]
  exact hK' _ _ (hK _ (hid (puts_same hb)) (hid (puts_grown _ _ _)) (hid (puts_size _ _ _)))

/-- delete, the key being none. -/
theorem wpList_del_none (w : World) {ops : Array Oper} {rest : List Oper} {o : Oper} {a : Act} {Q : Exit → Act → World → Prop}
    (hg : o.guard = none) (m x : Operand) (t : TypeId) (tys : Array TypeId) (hop : o.op = .call { callee := .builtin .delete, args := #[m, x], argTypes := tys }) (hty : tys[0]? = some t)
    (k e : TypeId) (d : TypeDesc) (ht : Tryz.prog.underlying t = some (.map k e)) (hk : Tryz.prog.underlying k = some d) (b : Nat) (es : Array MapEntry) (c : Nat)
    (hm : a.eval m = .map (some b)) (hb : w.heap[b]? = some (.map es c)) (key : Value) (hx : a.eval x = key) (hi : IsKey d key) (hf : Instr.findNow d key es.toList 0 = some none)
    (hK : ∀ w', Hid (w'.heap[b]? = some (.map es c)) → Hid (w.grownBy w' (some b)) → Hid (w'.heap.size = w.heap.size) → wpList Tryz.prog ops Q rest (a.put o.dst (.tuple #[])) w') :
    wpList Tryz.prog ops Q (o :: rest) a w := by
  refine wpList_plain hg fun K' hK' => ?_
  have hrun : (Builtin.delete_ tys o.type #[.map (some b), key]).run Tryz.prog w = .ok (.tuple #[]) (puts w b (.map es c)) := by
    simp only [Builtin.delete_, hty, List.getElem?_toArray, List.getElem?_cons_zero, List.getElem?_cons_succ, Sem.run_bind, run_underlying ht, Result.andThen, MapKept.run_getObj_map hb, MapKept.run_checkKey hk hi, run_findKey hk hf, MapKept.run_setObj_map _ hb, Sem.run_pure, puts]
  unfold Oper.wp execOp
  simp only [hop, resolve, invoke, builtin, Sem.run_bind, Sem.run_pure, Result.andThen_ok, List.map_toArray, List.map_cons, List.map_nil, hm, hx, hrun]
  exact hK' _ _ (hK _ (hid (puts_same hb)) (hid (puts_grown _ _ _)) (hid (puts_size _ _ _)))

theorem len_map {w : World} {t k e : TypeId} (ht : Tryz.prog.underlying t = some (.map k e)) {b : Nat} {es : Array MapEntry} {c : Nat} (hb : w.heap[b]? = some (.map es c)) (ty : TypeId) : (Builtin.len_ #[t] ty #[.map (some b)]).run Tryz.prog w = .ok (.int .i64 es.size) w := by
  simp [Builtin.len_, run_underlying ht, MapKept.run_getObj_map hb, goInt]

end Go.Proofs.YtlmompdfombgeaaGreat

namespace Go.Proofs.YtlmompdfombgeaaGreat
open Go.RowKit

theorem Sl.alloc {w : World} {v : Value} {bs : List Int} (h : Sl w v bs) (o : Obj) : Sl (w.alloc o) v bs := h.below ((Below.refl _ _).alloc (Nat.le_refl _) _)
theorem Sl.drew {w : World} {v : Value} {bs : List Int} (h : Sl w v bs) : Sl w.drew v bs := h.below (Below.refl _ _).drew

theorem Tryz.info4 : (Tryz.prog.info? 4).map (fun i => (i.zero, i.size, i.bytes)) = some (some (.bool false), 1, 1) := by kernel_rfl
theorem Tryz.info3 : (Tryz.prog.info? 3).map (fun i => (i.zero, i.size, i.bytes)) = some (some (.int .i64 0), 1, 8) := by kernel_rfl
theorem Tryz.info171 : (Tryz.prog.info? 171).map (fun i => (i.zero, i.size, i.bytes)) = some (some .nilIface, 1, 16) := by kernel_rfl
theorem hp_set {w : World} {g : Nat} {o : Obj} (h : w.heap[g]? = some o) {p : Addr} (hn : g ≠ p.block) (v : Value) : (w.setCell p v).heap[g]? = some o := (Below.heap_setCell _ _ _ _ hn).trans h
theorem hp_alloc {w : World} {g : Nat} {o : Obj} (h : w.heap[g]? = some o) (x : Obj) : (w.alloc x).heap[g]? = some o := (Below.heap_alloc _ _ _ (Array.getElem?_eq_some_iff.1 h).1).trans h
theorem hp_new (w : World) (x : Obj) : (w.alloc x).heap[w.heap.size]? = some x := (MapKept.heap_alloc w x).1
theorem hp_lt {w : World} {g : Nat} {o : Obj} (h : w.heap[g]? = some o) : g < w.heap.size := (Array.getElem?_eq_some_iff.1 h).1
theorem hp_below {w w' : World} {g : Nat} {o : Obj} {B : Nat} (h : w.heap[g]? = some o) (hk : Below B w w') (hg : g < B) : w'.heap[g]? = some o := (hk.block g hg).trans h
theorem hp_kept {w w' : World} {g : Nat} {o : Obj} {S : Nat → Prop} (h : w.heap[g]? = some o) (hk : Kept S w w') (hg : ¬ S g) : w'.heap[g]? = some o := (hk.block g (hp_lt h) hg).trans h
theorem hp_ne {w : World} {g k : Nat} {o o' : Obj} (h : w.heap[g]? = some o) (h' : w.heap[k]? = some o') (hne : o ≠ o') : g ≠ k := by
  intro e; subst e; rw [h] at h'; injection h' with h'; exact hne h'

theorem undrew {B : Nat} {w w' : World} (h : Below B w.drew w') : Below B w w' := ⟨h.os, h.tape, h.output, h.size, h.block⟩

/-- The cells of bools. -/
abbrev BB (l : List Bool) : List Value := l.map Value.bool

/-- Block g holds these bools. -/
def OwnB (w : World) (g : Nat) (bs : List Bool) : Prop := w.heap[g]? = some (.cells (BB bs).toArray 4 (0, 0))

theorem Own.below {w w' : World} {g : Nat} {bs : List Int} {B : Nat} (h : Own w g bs) (hk : Below B w w') (hg : g < B) : Own w' g bs := (hk.block g hg).trans h
theorem OwnB.below {w w' : World} {g : Nat} {bs : List Bool} {B : Nat} (h : OwnB w g bs) (hk : Below B w w') (hg : g < B) : OwnB w' g bs := (hk.block g hg).trans h
theorem Own.lt {w : World} {g : Nat} {bs : List Int} (h : Own w g bs) : g < w.heap.size := (Array.getElem?_eq_some_iff.1 h).1
theorem OwnB.lt {w : World} {g : Nat} {bs : List Bool} (h : OwnB w g bs) : g < w.heap.size := (Array.getElem?_eq_some_iff.1 h).1

/-- make([]bool, n). -/
theorem make_bools (n : Nat) (hn : n ≤ 1000000000) : ∀ W : World, (Instr.makeSlice 107 (.int .i64 n) (.int .i64 n)).run Tryz.prog W = .ok (.slice (some ⟨W.heap.size, 0, none⟩) n n) (W.alloc (.cells (BB (List.replicate n false)).toArray 4)) := by
  intro W
  obtain ⟨i0, hi, hz0, hz1, hz2⟩ := info_parts Tryz.info4
  have h := run_make (P := Tryz.prog) W 107 4 i0 (.bool false) Tryz.underlying107 hi hz0 .i64 .i64 (n : Int) (n : Int) (by omega) (by omega) (by rw [hz2]; omega) (by omega)
  rw [hz1] at h
  have e : madeCells (Value.bool false).cells (((n : Int).toNat) * 1) = (BB (List.replicate n false)).toArray := by
    apply Array.ext
    · simp [madeCells, Value.cells, BB]
    · intro i h1 h2
      simp [madeCells, Value.cells, BB, Nat.mod_one]
  rw [e] at h
  simpa using h

set_option maxRecDepth 100000 in
set_option maxHeartbeats 800000 in
theorem safeRow_any (v : Value) (bs : List Int) (w : World) (h : Sl w v bs) (hl : bs.length ≤ 1000000000) :
    Calls Tryz.prog 124 #[v] w fun x w' => ∃ A B, x = .returned (.agg #[.slice (some ⟨A, 0, none⟩) bs.length bs.length, .slice (some ⟨B, 0, none⟩) bs.length bs.length]) ∧ Own w' A bs ∧ OwnB w' B (List.replicate bs.length false) ∧ w.heap.size ≤ A ∧ w.heap.size ≤ B ∧ A ≠ B ∧ Below w.heap.size w w' := by
  have HS := hid h
  obtain ⟨ao, cap, rfl, hc, hx⟩ := h
  clear hx hc
  have hmk := make_bools bs.length hl
  go_enter Tryz.func124, Tryz.ntmps124
  go_wp2
  go_region_with (go_at_call 71; refine (copied_any _ bs _ (by first | exact HS.out.alloc _ | exact (HS.out.alloc _).drew | exact ((HS.out.alloc _).alloc _).drew | exact ((HS.out.alloc _).alloc _)) hl).mono ?_; rintro e w1 ⟨rfl, ho, hb⟩; have c0 := hb.cell (p := ⟨w.heap.size, 0, none⟩) (by simp; try omega); have c1 := hb.cell (p := ⟨w.heap.size, 1, none⟩) (by simp; try omega); have f0 := hb.frozen (p := ⟨w.heap.size, 0, none⟩) (by simp; try omega); have f1 := hb.frozen (p := ⟨w.heap.size, 1, none⟩) (by simp; try omega); have hz : w.heap.size < w1.heap.size := (by have := hb.size; simp at this; omega); have HO := hid ho; have HB := hid hb; clear ho hb)
  all_goals go_wp2
  · have hb : Below (w.heap.size + 1) (w.alloc (Obj.cells #[Value.slice none 0 0, Value.slice none 0 0] 109)) w1 := by simpa using undrew HB.out
    have ho : Own w1 (w.heap.size + 1) bs := by simpa using HO.out
    have hb0 : Below w.heap.size w w1 := ((Below.refl _ _).alloc (Nat.le_refl _) _).trans (hb.mono (by omega))
    have hol := hp_lt ho
    refine bodyPost_ret (v := .agg #[.slice (some ⟨w.heap.size + 1, 0, none⟩) bs.length bs.length, .slice (some ⟨w1.heap.size, 0, none⟩) bs.length bs.length]) (by simp [results, Tryz.results124, go_sem, c0, c1, hz]) rfl ⟨w.heap.size + 1, w1.heap.size, rfl, ?_, ?_, by omega, by omega, by omega, ?_⟩
    · exact hp_alloc (hp_set (hp_set ho (by simp) _) (by simp) _) _
    · have := hp_new ((w1.setCell ⟨w.heap.size, 0, none⟩ (Value.slice (some ⟨w.heap.size + 1, 0, none⟩) bs.length bs.length)).setCell ⟨w.heap.size, 1, none⟩ (Value.slice (some ⟨w1.heap.size, 0, none⟩) bs.length bs.length)) (Obj.cells (Array.replicate bs.length (Value.bool false)) 4)
      simpa [OwnB, BB] using this
    · exact ((hb0.setCell (p := ⟨w.heap.size, 0, none⟩) (Nat.le_refl _) _).setCell (p := ⟨w.heap.size, 1, none⟩) (Nat.le_refl _) _).alloc (by have := hb0.size; simp; omega) _
  · have hb : Below (w.heap.size + 1 + 1) ((w.alloc (Obj.cells #[Value.slice none 0 0, Value.slice none 0 0] 109)).alloc (Obj.cells (Array.replicate bs.length (Value.bool false)) 4)) w1 := by simpa using undrew HB.out
    have ho : Own w1 (w.heap.size + 1 + 1) bs := by simpa using HO.out
    have hb0 : Below w.heap.size w w1 := (((Below.refl _ _).alloc (Nat.le_refl _) _).alloc (by simp) _).trans (hb.mono (by omega))
    have hol := hp_lt ho
    refine bodyPost_ret (v := .agg #[.slice (some ⟨w.heap.size + 1 + 1, 0, none⟩) bs.length bs.length, .slice (some ⟨w.heap.size + 1, 0, none⟩) bs.length bs.length]) (by simp [results, Tryz.results124, go_sem, c0, c1]) rfl ⟨w.heap.size + 1 + 1, w.heap.size + 1, rfl, ?_, ?_, by omega, by omega, by omega, ?_⟩
    · exact (hp_set (hp_set ho (by simp; omega) _) (by simp; omega) _)
    · have h0 := hp_new (w.alloc (Obj.cells #[Value.slice none 0 0, Value.slice none 0 0] 109)) (Obj.cells (Array.replicate bs.length (Value.bool false)) 4)
      have h1 : OwnB ((w.alloc (Obj.cells #[Value.slice none 0 0, Value.slice none 0 0] 109)).alloc (Obj.cells (Array.replicate bs.length (Value.bool false)) 4)) (w.heap.size + 1) (List.replicate bs.length false) := by simpa [OwnB, BB] using h0
      exact (hp_set (hp_set (h1.below hb (by omega)) (by simp) _) (by simp) _)
    · exact ((hb0.setCell (p := ⟨w.heap.size, 0, none⟩) (Nat.le_refl _) _).setCell (p := ⟨w.heap.size, 1, none⟩) (Nat.le_refl _) _)

end Go.Proofs.YtlmompdfombgeaaGreat

namespace Go.Proofs.YtlmompdfombgeaaGreat
open Go.RowKit

/-- A file at block p. -/
structure FileAt (w : World) (B p : Nat) (safe : List Int) (pend : List Value) (data : List Int) (fresh : List Bool) (peak : Int) (vs vp vd vf : Value) : Prop where
  blk : w.heap[p]? = some (.cells #[vs, vp, vd, vf, .int .i64 peak] 112 (0, 0))
  os : w.ownsRow B 5 1 vs safe.length (B8 safe)
  op : w.ownsRow B 171 1 vp pend.length pend
  od : w.ownsRow B 5 1 vd data.length (B8 data)
  of : w.ownsRow B 4 1 vf fresh.length (BB fresh)
  sep : ∀ k, vs.ownBlock = some k → vd.ownBlock ≠ some k

theorem OwnB.owns {w : World} {g : Nat} {bs : List Bool} {B : Nat} (h : OwnB w g bs) (hB : B ≤ g) (hl : bs.length ≤ maxLen) : w.ownsRow B 4 1 (.slice (some ⟨g, 0, none⟩) bs.length bs.length) bs.length (BB bs) := by
  refine ⟨by simp, .inr ⟨g, bs.length, _, rfl, hB, h, Nat.le_refl _, hl, by simp, ?_⟩⟩
  rw [List.take_of_length_le (by simp)]

theorem owns_base {w : World} {B B' : Nat} {e : TypeId} {size : Nat} {v : Value} {n : Nat} {xs : List Value} (h : w.ownsRow B e size v n xs) (hB : B' ≤ B) : w.ownsRow B' e size v n xs := by
  refine ⟨h.1, ?_⟩
  rcases h.2 with hn' | ⟨g, cap, cur, rfl, hb, rest⟩
  · exact .inl hn'
  · exact .inr ⟨g, cap, cur, rfl, by omega, rest⟩

theorem FileAt.base {w : World} {B B' p : Nat} {safe : List Int} {pend : List Value} {data : List Int} {fresh : List Bool} {peak : Int} {vs vp vd vf : Value} (h : FileAt w B p safe pend data fresh peak vs vp vd vf) (hB : B' ≤ B) : FileAt w B' p safe pend data fresh peak vs vp vd vf :=
  ⟨h.blk, owns_base h.os hB, owns_base h.op hB, owns_base h.od hB, owns_base h.of hB, h.sep⟩

theorem FileAt.kept {w w' : World} {S : Nat → Prop} {B p : Nat} {safe : List Int} {pend : List Value} {data : List Int} {fresh : List Bool} {peak : Int} {vs vp vd vf : Value} (h : FileAt w B p safe pend data fresh peak vs vp vd vf) (hk : Kept S w w')
    (h0 : ¬ S p) (h1 : ∀ k, vs.ownBlock = some k → ¬ S k) (h2 : ∀ k, vp.ownBlock = some k → ¬ S k) (h3 : ∀ k, vd.ownBlock = some k → ¬ S k) (h4 : ∀ k, vf.ownBlock = some k → ¬ S k) : FileAt w' B p safe pend data fresh peak vs vp vd vf :=
  ⟨hp_kept h.blk hk h0, ownsRow_kept h.os hk h1, ownsRow_kept h.op hk h2, ownsRow_kept h.od hk h3, ownsRow_kept h.of hk h4, h.sep⟩

theorem FileAt.below {w w' : World} {B p : Nat} {safe : List Int} {pend : List Value} {data : List Int} {fresh : List Bool} {peak : Int} {vs vp vd vf : Value} (h : FileAt w B p safe pend data fresh peak vs vp vd vf) (hk : Below w.heap.size w w') : FileAt w' B p safe pend data fresh peak vs vp vd vf :=
  h.kept (Kept.ofBelow hk) (fun h => h) (fun _ _ h => h) (fun _ _ h => h) (fun _ _ h => h) (fun _ _ h => h)

theorem owns_nil (w : World) (B : Nat) (e : TypeId) (size : Nat) : w.ownsRow B e size (.slice none 0 0) 0 [] := ⟨by simp, .inl ⟨rfl, rfl⟩⟩

set_option maxRecDepth 100000 in
set_option maxHeartbeats 800000 in
theorem newFile_any (v : Value) (bs : List Int) (w : World) (h : Sl w v bs) (hl : bs.length ≤ 1000000000) :
    Calls Tryz.prog 121 #[v] w fun x w' => ∃ p vs vd vf, x = .returned (.pointer (some ⟨p, 0, none⟩)) ∧ w.heap.size ≤ p ∧ FileAt w' w.heap.size p bs [] bs (List.replicate bs.length false) bs.length vs (.slice none 0 0) vd vf ∧ Below w.heap.size w w' := by
  have HS := hid h
  obtain ⟨ao, cap, rfl, hc, hx⟩ := h
  clear hx hc
  go_enter Tryz.func121, Tryz.ntmps121
  go_wp2_with (first
    | (go_at_call 71; refine (copied_any _ bs _ HS.out hl).mono ?_; rintro e w1 ⟨rfl, ho, hb⟩; have HO := hid ho; have HB := hid hb; clear ho hb)
    | (go_at_call 124; refine (safeRow_any _ bs _ (HS.out.below HB.out) hl).mono ?_; rintro e w2 ⟨A, B, rfl, hA, hB, g1, g2, g3, hb2⟩; have HA := hid (And.intro hA hB); have HG := hid (And.intro g1 (And.intro g2 g3)); have HB2 := hid hb2; clear hA hB hb2 g1 g2 g3))
  go_ret
  obtain ⟨hA, hB⟩ := HA.out
  obtain ⟨g1, g2, g3⟩ := HG.out
  have hb := HB.out
  have hb2 := HB2.out
  have ho := HO.out
  have hz := hb.size
  have hz2 := hb2.size
  have hol := hp_lt ho
  have hbel := hb.trans (hb2.mono hz)
  have hlm : bs.length ≤ maxLen := by unfold maxLen; omega
  have h1 := (show Own w2 w.heap.size bs from hp_below ho hb2 hol)
  refine ⟨w2.heap.size, _, _, _, rfl, by omega, ⟨hp_new _ _, ?_, owns_nil _ _ _ _, ?_, ?_, ?_⟩, hbel.alloc (by omega) _⟩
  · exact (show Own (w2.alloc _) w.heap.size bs from hp_alloc h1 _).owns (Nat.le_refl _) hlm
  · exact (show Own (w2.alloc _) A bs from hp_alloc hA _).owns (by omega) hlm
  · have := (show OwnB (w2.alloc (Obj.cells #[Value.slice (some ⟨w.heap.size, 0, none⟩) bs.length bs.length, Value.slice none 0 0, Value.slice (some ⟨A, 0, none⟩) bs.length bs.length, Value.slice (some ⟨B, 0, none⟩) bs.length bs.length, Value.int IntKind.i64 bs.length] 112)) B (List.replicate bs.length false) from hp_alloc hB _).owns (show w.heap.size ≤ B by omega) (by simpa using hlm)
    simpa using this
  · intro k hk
    simp [Value.ownBlock] at hk ⊢
    omega

end Go.Proofs.YtlmompdfombgeaaGreat

namespace Go.Proofs.YtlmompdfombgeaaGreat
open Go.RowKit

/-- A slice of bytes, nil or with an address. -/
def Sn (w : World) (v : Value) (bs : List Int) : Prop := Sl w v bs ∧ (v = .slice none 0 0 ∨ ∃ a n c, v = .slice (some a) n c)

theorem sn_nil (w : World) : Sn w (.slice none 0 0) [] := ⟨⟨none, 0, rfl, Nat.le_refl _, fun h => absurd rfl h⟩, .inl rfl⟩

theorem sn_of_owns {w : World} {B : Nat} {v : Value} {bs : List Int} {n : Nat} (h : w.ownsRow B 5 1 v n (B8 bs)) : Sn w v bs := by
  refine ⟨sl_of_owns h, ?_⟩
  rcases h.2 with ⟨rfl, _⟩ | ⟨g, cap, cur, rfl, _⟩
  · exact .inl rfl
  · exact .inr ⟨_, _, _, rfl⟩

theorem Sn.kept {w w' : World} {v : Value} {bs : List Int} {S : Nat → Prop} (h : Sn w v bs) (hk : Kept S w w') (hn : ∀ k, v.ownBlock = some k → ¬ S k) : Sn w' v bs := ⟨h.1.kept hk hn, h.2⟩
theorem Sn.below {w w' : World} {v : Value} {bs : List Int} (h : Sn w v bs) (hk : Below w.heap.size w w') : Sn w' v bs := ⟨h.1.below hk, h.2⟩
theorem Sn.alloc {w : World} {v : Value} {bs : List Int} (h : Sn w v bs) (o : Obj) : Sn (w.alloc o) v bs := h.below ((Below.refl _ _).alloc (Nat.le_refl _) o)

set_option maxRecDepth 100000 in
theorem append_sn (w : World) (ty : TypeId) (B : Nat) (v : Value) (n : Nat) (xs : List Int) (hown : w.ownsRow B 5 1 v n (B8 xs)) (sv : Value) (ys : List Int) (hsn : Sn w sv ys) (hl : n + ys.length ≤ 100000000000) (hbase : B ≤ w.heap.size) :
    ∃ v' w', (Builtin.append_ #[35, 35] ty #[v, sv]).run Tryz.prog w = .ok v' w' ∧ w'.ownsRow B 5 1 v' (n + ys.length) (B8 (xs ++ ys)) ∧ w.grownBy w' v.ownBlock ∧ (v'.ownBlock = v.ownBlock ∨ v'.ownBlock = some w.heap.size) := by
  obtain ⟨i0, hi, hz0, hz1, hz2⟩ := info_parts Tryz.info5
  obtain ⟨⟨ao, cap, rfl, hc, hx⟩, hsh⟩ := hsn
  rcases hsh with hsh | ⟨a, m, c, hsh⟩
  · injection hsh with h1 h2 h3
    have hy : ys = [] := List.eq_nil_of_length_eq_zero h2
    subst hy
    subst h1 h3
    refine ⟨v, w, run_append_owned_none (P := Tryz.prog) (w := w) B 35 ty 5 i0 1 Tryz.underlying35 hi v n (B8 xs) hown, by simpa using hown, ⟨rfl, rfl, rfl, Nat.le_refl _, fun _ _ _ => rfl⟩, .inl rfl⟩
  · injection hsh with h1 h2 h3
    subst h1 h2 h3
    obtain ⟨v', w', hr, q1, q2, _, q4⟩ := run_append_own_at (P := Tryz.prog) w B 35 ty 5 i0 (.int .u8 0) 1 1 Tryz.underlying35 hi hz0 hz1 hz2 rfl (by omega) v n (B8 xs) hown a ys.length cap (B8 ys) (by simp) (by
      intro j u hu
      rw [List.getElem?_map, Option.map_eq_some_iff] at hu
      obtain ⟨y, hy, rfl⟩ := hu
      obtain ⟨b, off, e, hj⟩ := hx (by intro e; subst e; simp at hy)
      injection e with e
      subst e
      rw [add_lit]
      exact hj j y hy) (by intro u hu; obtain ⟨_, _, rfl⟩ := List.mem_map.1 hu; rfl) (by unfold maxLen; omega) (by omega) hbase
    exact ⟨v', w', hr, by simpa using q1, q2, q4⟩

set_option maxRecDepth 100000 in
theorem append_ty (w : World) (ty t2 : TypeId) (e : TypeId) (ht : Tryz.prog.underlying t2 = some (.slice e)) (v sv : Value) : (Builtin.append_ #[35, t2] ty #[v, sv]).run Tryz.prog w = (Builtin.append_ #[35, 35] ty #[v, sv]).run Tryz.prog w := by
  simp only [Builtin.append_, List.getElem?_toArray, List.getElem?_cons_zero, List.getElem?_cons_succ, Sem.run_bind, run_underlying Tryz.underlying35, Result.andThen]
  cases v <;> (try rfl)
  simp only [Sem.run_bind, run_underlying Tryz.underlying35, run_underlying ht, Result.andThen, Sem.run_pure]

theorem append_ut (w : World) (ty t2 : TypeId) (e : TypeId) (ht : Tryz.prog.underlying t2 = some (.slice e)) (B : Nat) (v : Value) (n : Nat) (xs : List Int) (hown : w.ownsRow B 5 1 v n (B8 xs)) (sv : Value) (ys : List Int) (hsn : Sn w sv ys) (hl : n + ys.length ≤ 100000000000) (hbase : B ≤ w.heap.size) :
    ∃ v' w', (Builtin.append_ #[35, t2] ty #[v, sv]).run Tryz.prog w = .ok v' w' ∧ w'.ownsRow B 5 1 v' (n + ys.length) (B8 (xs ++ ys)) ∧ w.grownBy w' v.ownBlock ∧ (v'.ownBlock = v.ownBlock ∨ v'.ownBlock = some w.heap.size) := by
  rw [append_ty w ty t2 e ht]
  exact append_sn w ty B v n xs hown sv ys hsn hl hbase

theorem own_shape {w : World} {B : Nat} {e : TypeId} {size : Nat} {v : Value} {n : Nat} {xs : List Value} (h : w.ownsRow B e size v n xs) : ∃ ao c, v = .slice ao n c := by
  rcases h.2 with ⟨e1, e2⟩ | ⟨g, cap, cur, e1, _⟩
  · exact ⟨none, 0, by rw [e1, e2]⟩
  · exact ⟨_, _, e1⟩

theorem wpList_append_sn (w : World) {ops : Array Oper} {rest : List Oper} {o : Oper} {a : Act} {Q : Exit → Act → World → Prop} (hgd : o.guard = none) (s x : Operand) (t2 e : TypeId) (ht : Tryz.prog.underlying t2 = some (.slice e))
    (ho : o.op = .call { callee := .builtin .append, args := #[s, x], argTypes := #[35, t2] }) (B : Nat) (v : Value) (n : Nat) (xs : List Int) (hs : a.eval s = v) (hown : w.ownsRow B 5 1 v n (B8 xs))
    (sv : Value) (ys : List Int) (hx : a.eval x = sv) (hsn : Sn w sv ys) (hl : n + ys.length ≤ 100000000000) (hbase : B ≤ w.heap.size)
    (h : ∀ ao c w', Hid (w'.ownsRow B 5 1 (.slice ao (n + ys.length) c) (n + ys.length) (B8 (xs ++ ys))) → Hid (w.grownBy w' v.ownBlock) → Hid ((Value.slice ao (n + ys.length) c).ownBlock = v.ownBlock ∨ (Value.slice ao (n + ys.length) c).ownBlock = some w.heap.size) → wpList Tryz.prog ops Q rest (a.put o.dst (.slice ao (n + ys.length) c)) w') : wpList Tryz.prog ops Q (o :: rest) a w := by
  refine wpList_plain hgd fun K hK => ?_
  obtain ⟨v', w', hr, h2, h3, h4⟩ := append_ut w o.type t2 e ht B v n xs hown sv ys hsn hl hbase
  obtain ⟨ao, c, rfl⟩ := own_shape h2
  unfold Oper.wp execOp
  simp only [ho, resolve, invoke, builtin, Sem.run_bind, Sem.run_pure, Result.andThen_ok, List.map_toArray, List.map_cons, List.map_nil, hs, hx, hr]
  exact hK _ _ (h ao c w' (hid h2) (hid h3) (hid h4))

theorem step_append_sn (w : World) {ops : Array Oper} {o : Oper} {a : Act} {K : Act → World → Prop} {Q : Exit → Act → World → Prop} {E : Prop} (hgd : o.guard = none) (s x : Operand) (t2 e : TypeId) (ht : Tryz.prog.underlying t2 = some (.slice e))
    (ho : o.op = .call { callee := .builtin .append, args := #[s, x], argTypes := #[35, t2] }) (B : Nat) (v : Value) (n : Nat) (xs : List Int) (hs : a.eval s = v) (hown : w.ownsRow B 5 1 v n (B8 xs))
    (sv : Value) (ys : List Int) (hx : a.eval x = sv) (hsn : Sn w sv ys) (hl : n + ys.length ≤ 100000000000) (hbase : B ≤ w.heap.size)
    (h : ∀ ao c w', Hid (w'.ownsRow B 5 1 (.slice ao (n + ys.length) c) (n + ys.length) (B8 (xs ++ ys))) → Hid (w.grownBy w' v.ownBlock) → Hid ((Value.slice ao (n + ys.length) c).ownBlock = v.ownBlock ∨ (Value.slice ao (n + ys.length) c).ownBlock = some w.heap.size) → K (a.put o.dst (.slice ao (n + ys.length) c)) w') :
    if Region.wanted o (yielded ops a.tmps) = true then Oper.wp Tryz.prog o a w K Q else E := by
  have hw : Region.wanted o (yielded ops a.tmps) = true := by simp [Region.wanted, hgd]
  rw [if_pos hw]
  obtain ⟨v', w', hr, h2, h3, h4⟩ := append_ut w o.type t2 e ht B v n xs hown sv ys hsn hl hbase
  obtain ⟨ao, c, rfl⟩ := own_shape h2
  unfold Oper.wp execOp
  simp only [ho, resolve, invoke, builtin, Sem.run_bind, Sem.run_pure, Result.andThen_ok, List.map_toArray, List.map_cons, List.map_nil, hs, hx, hr]
  exact h ao c w' (hid h2) (hid h3) (hid h4)

end Go.Proofs.YtlmompdfombgeaaGreat
