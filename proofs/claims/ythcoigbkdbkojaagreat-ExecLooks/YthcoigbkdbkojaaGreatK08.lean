import Derived.Test.YthcoigbkdbkojaaGreatK07
import Derived.Maps.OwnSet
import Derived.Maps.OwnOps
import Derived.Maps.RangeWalk
import Derived.Laws.IdiomRangeMap
namespace Go.Proofs.YthcoigbkdbkojaaGreat
open Go.RowKit Go.MapKept
open V (hp_new hp_lt hp_below)

/-- The world with another object in block r. -/
def puts (w : World) (r : Nat) (o : Obj) : World := { w with heap := w.heap.setIfInBounds r o }

theorem puts_same {w : World} {r : Nat} {o o' : Obj} (hb : w.heap[r]? = some o) : (puts w r o').heap[r]? = some o' := (heap_set hb).1
theorem puts_other (w : World) {r k : Nat} (o' : Obj) (h : k ≠ r) : (puts w r o').heap[k]? = w.heap[k]? := by
  simp [puts, Ne.symm h]
theorem puts_size (w : World) (r : Nat) (o' : Obj) : (puts w r o').heap.size = w.heap.size := by simp [puts]
theorem puts_grown (w : World) (r : Nat) (o' : Obj) : w.grownBy (puts w r o') (some r) :=
  ⟨rfl, rfl, rfl, by simp [puts], fun k _ hk => puts_other w o' (fun e => hk (by rw [e]))⟩
theorem Kept.puts {S : Nat → Prop} {a w : World} (h : Kept S a w) {r : Nat} (hp : r < a.heap.size → S r) (o' : Obj) : Kept S a (puts w r o') :=
  h.grown (puts_grown w r o') (fun k hk e => by cases e; exact hp hk)

/-- What a look-up finds. -/
theorem look_found {w : World} {t k e : TypeId} {d : TypeDesc} (ht : Tryz.prog.underlying t = some (.map k e)) (hk : Tryz.prog.underlying k = some d) {b : Nat} {es : Array MapEntry} {c : Nat} (hb : w.heap[b]? = some (.map es c)) {key : Value} (hi : IsKey d key) {i : Nat} {v : Value}
    (hf : Instr.findNow d key es.toList 0 = some (some (i, v))) (ok : Bool) : (Instr.lookup t (.map (some b)) key ok).run Tryz.prog w = .ok (if ok then .tuple #[v, .bool true] else v) w := by
  simp only [Instr.lookup, Sem.run_bind, run_underlying ht, Result.andThen, MapKept.run_getObj_map hb, Sem.run_pure, MapKept.run_checkKey hk hi, run_findKey hk hf]

theorem look_none {w : World} {t k e : TypeId} {d : TypeDesc} (ht : Tryz.prog.underlying t = some (.map k e)) (hk : Tryz.prog.underlying k = some d) {b : Nat} {es : Array MapEntry} {c : Nat} (hb : w.heap[b]? = some (.map es c)) {key : Value} (hi : IsKey d key) {z : Value} (hz : (zeroValue e).run Tryz.prog w = .ok z w)
    (hf : Instr.findNow d key es.toList 0 = some none) (ok : Bool) : (Instr.lookup t (.map (some b)) key ok).run Tryz.prog w = .ok (if ok then .tuple #[z, .bool false] else z) w := by
  simp only [Instr.lookup, Sem.run_bind, run_underlying ht, Result.andThen, MapKept.run_getObj_map hb, Sem.run_pure, MapKept.run_checkKey hk hi, run_findKey hk hf, hz]

/-- m[k] = v, the key being new. -/
theorem upd_new {w : World} {t k e : TypeId} {d : TypeDesc} (ht : Tryz.prog.underlying t = some (.map k e)) (hk : Tryz.prog.underlying k = some d) {b : Nat} {es : Array MapEntry} {c : Nat} (hb : w.heap[b]? = some (.map es c)) {key : Value} (hi : IsKey d key) (v : Value)
    (hf : Instr.findNow d key es.toList 0 = some none) : (Instr.mapUpdate t (.map (some b)) key v).run Tryz.prog w = .ok () (puts w b (.map (es.push { key := key, val := v, born := c }) (c + 1))) := by
  simp only [Instr.mapUpdate, Sem.run_bind, run_underlying ht, Result.andThen, MapKept.run_getObj_map hb, MapKept.run_checkKey hk hi, run_findKey hk hf, MapKept.run_setObj_map _ hb, puts]

theorem len_map {w : World} {t k e : TypeId} (ht : Tryz.prog.underlying t = some (.map k e)) {b : Nat} {es : Array MapEntry} {c : Nat} (hb : w.heap[b]? = some (.map es c)) (ty : TypeId) : (Builtin.len_ #[t] ty #[.map (some b)]).run Tryz.prog w = .ok (.int .i64 es.size) w := by
  simp [Builtin.len_, run_underlying ht, MapKept.run_getObj_map hb, goInt]

theorem key_str (s : ByteArray) : IsKey .string (.string s) := by simp [IsKey]

theorem hp_kept {w w' : World} {g : Nat} {o : Obj} {S : Nat → Prop} (h : w.heap[g]? = some o) (hk : Kept S w w') (hg : ¬ S g) : w'.heap[g]? = some o := hpk h hk hg

/-- A kind of keys: how one is written, and that two are told apart. -/
structure Ky (κ : Type) [DecidableEq κ] where
  d : TypeDesc
  enc : κ → Value
  same : ∀ a b, Instr.sameNow d (enc a) (enc b) = some (decide (a = b))
  key : ∀ a, IsKey d (enc a)

/-- A map in block b: its keys and values in the order of the entries. -/
structure MG {κ : Type} [DecidableEq κ] (K : Ky κ) (w : World) (b : Nat) (kv : List (κ × Value)) (es : Array MapEntry) (c : Nat) : Prop where
  blk : w.heap[b]? = some (.map es c)
  hold : ∀ x ∈ es.toList, x.born < c
  nd : (es.toList.map MapEntry.born).Nodup
  kvs : es.toList.map (fun e => (e.key, e.val)) = kv.map (fun x => (K.enc x.1, x.2))
  keys : (kv.map Prod.fst).Nodup

section
variable {κ : Type} [DecidableEq κ] (K : Ky κ)

/-- What a look-up finds. -/
theorem find_kv (k : κ) : ∀ (es : List MapEntry) (kv : List (κ × Value)) (i : Nat), es.map (fun e => (e.key, e.val)) = kv.map (fun x => (K.enc x.1, x.2)) →
    (kv.lookup k = none ∧ Instr.findNow K.d (K.enc k) es i = some none) ∨ ∃ v j, kv.lookup k = some v ∧ kv[j]? = some (k, v) ∧ Instr.findNow K.d (K.enc k) es i = some (some (i + j, v))
  | [], [], i, _ => .inl ⟨rfl, rfl⟩
  | e :: es, [], i, h => by simp at h
  | [], x :: kv, i, h => by simp at h
  | e :: es, x :: kv, i, h => by
    simp only [List.map_cons, List.cons.injEq, Prod.mk.injEq] at h
    obtain ⟨⟨hk, hv⟩, ht⟩ := h
    by_cases hx : k = x.1
    · right
      refine ⟨x.2, 0, by rw [List.lookup_cons, hx]; simp, by simp [hx], ?_⟩
      unfold Instr.findNow
      rw [hk, K.same, hx]
      simp [hv]
    · rcases find_kv k es kv (i + 1) ht with ⟨h1, h2⟩ | ⟨v, j, h1, h2, h3⟩
      · left
        refine ⟨by rw [List.lookup_cons, show (k == x.1) = false by simpa using hx]; exact h1, ?_⟩
        unfold Instr.findNow
        rw [hk, K.same]
        simp [hx, h2]
      · right
        refine ⟨v, j + 1, by rw [List.lookup_cons, show (k == x.1) = false by simpa using hx]; exact h1, by simpa using h2, ?_⟩
        unfold Instr.findNow
        rw [hk, K.same]
        simp [hx, h3]
        omega

variable {K} {w w' : World} {b c : Nat} {kv : List (κ × Value)} {es : Array MapEntry}

theorem MG.kept {S : Nat → Prop} (h : MG K w b kv es c) (hk : Kept S w w') (hn : ¬ S b) : MG K w' b kv es c := ⟨hp_kept h.blk hk hn, h.hold, h.nd, h.kvs, h.keys⟩
theorem MG.below (h : MG K w b kv es c) (hk : Below w.heap.size w w') : MG K w' b kv es c := h.kept (Kept.ofBelow hk) (fun e => e)

theorem MG.size (h : MG K w b kv es c) : es.size = kv.length := by
  have := congrArg List.length h.kvs
  simpa using this

theorem MG.look (h : MG K w b kv es c) {t kt e : TypeId} (ht : Tryz.prog.underlying t = some (.map kt e)) (hk : Tryz.prog.underlying kt = some K.d) {z : Value} (hz : (zeroValue e).run Tryz.prog w = .ok z w) (k : κ) (ok : Bool) :
    (Instr.lookup t (.map (some b)) (K.enc k) ok).run Tryz.prog w = .ok (if ok then .tuple #[(kv.lookup k).getD z, .bool (kv.lookup k).isSome] else (kv.lookup k).getD z) w := by
  rcases find_kv K k es.toList kv 0 h.kvs with ⟨h1, h2⟩ | ⟨v, j, h1, _, h3⟩
  · rw [h1]
    exact look_none ht hk h.blk (K.key k) hz h2 ok
  · rw [h1]
    exact look_found ht hk h.blk (K.key k) h3 ok

theorem MG.len (h : MG K w b kv es c) {t kt e : TypeId} (ht : Tryz.prog.underlying t = some (.map kt e)) (ty : TypeId) : (Builtin.len_ #[t] ty #[.map (some b)]).run Tryz.prog w = .ok (.int .i64 kv.length) w := by
  rw [← h.size]
  exact len_map ht h.blk ty

theorem MG.noKey (h : MG K w b kv es c) (k : κ) (hn : kv.lookup k = none) : Instr.findNow K.d (K.enc k) es.toList 0 = some none := by
  rcases find_kv K k es.toList kv 0 h.kvs with ⟨_, h2⟩ | ⟨v, j, h1, _, _⟩
  · exact h2
  · rw [hn] at h1; cases h1

theorem lookup_none_mem {k : κ} : ∀ {kv : List (κ × Value)}, kv.lookup k = Option.none → k ∉ kv.map Prod.fst
  | [], _ => by simp
  | x :: kv, h => by
    rw [List.lookup_cons] at h
    by_cases hx : k = x.1
    · simp [hx] at h
    · rw [show (k == x.1) = false by simpa using hx] at h
      have := lookup_none_mem (kv := kv) h
      simp [hx] at this ⊢
      exact this

/-- A new key. -/
theorem MG.push (h : MG K w b kv es c) (k : κ) (v : Value) (hn : kv.lookup k = none) (hb : w'.heap[b]? = some (.map (es.push { key := K.enc k, val := v, born := c }) (c + 1))) : MG K w' b (kv ++ [(k, v)]) (es.push { key := K.enc k, val := v, born := c }) (c + 1) := by
  refine ⟨hb, ?_, ?_, ?_, ?_⟩
  · intro x hx
    simp at hx
    rcases hx with hx | rfl
    · have := h.hold x (by simpa using hx); omega
    · exact Nat.lt_succ_self _
  · rw [Array.toList_push, List.map_append, List.nodup_append]
    refine ⟨h.nd, by simp, ?_⟩
    intro a ha a' ha' e
    simp at ha'
    subst ha'
    obtain ⟨x, hx, hxa⟩ := List.mem_map.1 ha
    have := h.hold x hx
    omega
  · rw [Array.toList_push, List.map_append, h.kvs]
    simp
  · rw [List.map_append, List.nodup_append]
    refine ⟨h.keys, by simp, ?_⟩
    intro a ha a' ha' e
    simp at ha'
    subst ha' e
    exact lookup_none_mem hn ha

end

theorem same_dec {κ : Type} [DecidableEq κ] (d : TypeDesc) (enc : κ → Value) (hk : ∀ a, IsKey d (enc a)) (hi : ∀ a b, enc a = enc b → a = b) (a b : κ) : Instr.sameNow d (enc a) (enc b) = some (decide (a = b)) := by
  obtain ⟨r, h1, h2⟩ := sameNow_of_keys (hk a) (hk b)
  rw [h1]
  congr 1
  by_cases e : a = b
  · subst e
    simpa using h2.2 rfl
  · have : r ≠ true := fun h => e (hi a b (h2.1 h))
    simp [e]
    simpa using this

/-- Keys that are texts. -/
def KS : Ky ByteArray := ⟨.string, .string, same_dec _ _ key_str (fun a b h => by injection h), key_str⟩

end Go.Proofs.YthcoigbkdbkojaaGreat

namespace Go.Proofs.YthcoigbkdbkojaaGreat
open Go.RowKit
open V (hp_new hp_lt hp_below hp_alloc)

theorem cells8 {w : World} {p : Nat} {a b c d e f g i : Value} {t : TypeId} (h : w.heap[p]? = some (.cells #[a, b, c, d, e, f, g, i] t (0, 0))) : w.cell? ⟨p, 0, none⟩ = some a ∧ w.cell? ⟨p, 1, none⟩ = some b ∧ w.cell? ⟨p, 2, none⟩ = some c ∧ w.cell? ⟨p, 3, none⟩ = some d ∧ w.cell? ⟨p, 4, none⟩ = some e ∧ w.cell? ⟨p, 5, none⟩ = some f ∧ w.cell? ⟨p, 6, none⟩ = some g ∧ w.cell? ⟨p, 7, none⟩ = some i := by
  refine ⟨?_, ?_, ?_, ?_, ?_, ?_, ?_, ?_⟩ <;> (rw [cell_of_row w p _ _ _ _ h]; rfl)

/-- A list of values to be read. -/
def Va (w : World) (v : Value) (l : List Vd) : Prop := ∃ ao cap, v = .slice ao l.length cap ∧ l.length ≤ cap ∧ (l ≠ [] → ∃ b off, ao = some ⟨b, off, none⟩ ∧ ∀ j x, l[j]? = some x → w.cell? ⟨b, off + j * 3, none⟩ = some (.int .i64 x.k) ∧ w.cell? ⟨b, off + j * 3 + 1, none⟩ = some (.int .i64 x.i) ∧ w.cell? ⟨b, off + j * 3 + 2, none⟩ = some (.string x.t))

def vcs (v : Vd) : List Value := [.int .i64 v.k, .int .i64 v.i, .string v.t]
def lcs (x : ByteArray × ByteArray) : List Value := [.string x.1, .string x.2]

/-- A machine with what it keeps. -/
structure MX (w : World) (B mb : Nat) (s : Ms) (td : List Vd) (lk : List (ByteArray × ByteArray)) (M : Nat) (kv : List (ByteArray × Value)) : Prop where
  m : Mb w mb s
  ge : B ≤ mb
  td : w.ownsRow B 28 3 s.tv td.length (td.flatMap vcs)
  lk : w.ownsRow B 61 2 s.lv lk.length (lk.flatMap lcs)
  wv : s.wv = .map (some M)
  mg : ∃ es c, MG KS w M kv es c
  gm : B ≤ M

theorem owns_blk {w : World} {B : Nat} {e : TypeId} {m : Nat} {v : Value} {n : Nat} {xs : List Value} (h : w.ownsRow B e m v n xs) {k : Nat} (hk : v.ownBlock = some k) {o : Obj} (ho : w.heap[k]? = some o) (hn : ∀ cs, o ≠ .cells cs e (0, 0)) : False := by
  obtain ⟨c1, h1⟩ := owns_ty h hk
  rw [h1] at ho
  injection ho with ho
  exact hn _ ho.symm

section
variable {w w' : World} {B mb M : Nat} {s : Ms} {td : List Vd} {lk : List (ByteArray × ByteArray)} {kv : List (ByteArray × Value)}

theorem MX.below (h : MX w B mb s td lk M kv) (hb : Below w.heap.size w w') : MX w' B mb s td lk M kv :=
  ⟨h.m.below hb, h.ge, ownsRow_kept h.td (Kept.ofBelow hb) (fun _ _ e => e), ownsRow_kept h.lk (Kept.ofBelow hb) (fun _ _ e => e), h.wv, by obtain ⟨es, c, g⟩ := h.mg; exact ⟨es, c, g.below hb⟩, h.gm⟩

/-- The machine's own block is written. -/
theorem MX.own (h : MX w B mb s td lk M kv) {s' : Ms} (hm : Mb w' mb s') (hk : Kept (fun k => k = mb) w w') (e1 : s'.tv = s.tv) (e2 : s'.lv = s.lv) (e3 : s'.wv = s.wv) : MX w' B mb s' td lk M kv := by
  obtain ⟨cs, hb, -⟩ := h.m.ex
  refine ⟨hm, h.ge, ?_, ?_, e3.trans h.wv, ?_, h.gm⟩
  · rw [e1]
    exact ownsRow_kept h.td hk (fun k e e2 => owns_blk h.td (k := mb) (o := .cells cs 82 (0, 0)) (by rw [← e2]; exact e) hb (fun cs e => by injection e with _ e; cases e))
  · rw [e2]
    exact ownsRow_kept h.lk hk (fun k e e2 => owns_blk h.lk (k := mb) (o := .cells cs 82 (0, 0)) (by rw [← e2]; exact e) hb (fun cs e => by injection e with _ e; cases e))
  · obtain ⟨es, c, g⟩ := h.mg
    exact ⟨es, c, g.kept hk (fun e => by have h1 := g.blk; rw [e, hb] at h1; cases h1)⟩

/-- The blocks that an instruction may write. -/
def Sx (s : Ms) (mb M : Nat) (k : Nat) : Prop := k = mb ∨ k = M ∨ s.tv.ownBlock = some k ∨ s.lv.ownBlock = some k

theorem MX.keptB (h : MX w B mb s td lk M kv) (hk : Kept (Sx s mb M) w w') : Below B w w' := hk.below (Nat.le_trans h.ge (Nat.le_of_lt h.m.lt)) (fun k hk e => by
  rcases e with e | e | e | e
  · have := h.ge; omega
  · have := h.gm; omega
  · have := (h.td.lt k e).1; omega
  · have := (h.lk.lt k e).1; omega)

theorem ksx {S : Nat → Prop} (hk : Kept S w w') (hS : ∀ k, S k → Sx s mb M k) : Kept (Sx s mb M) w w' := hk.mono (fun k _ e => hS k e)
theorem bsx (hb : Below w.heap.size w w') : Kept (Sx s mb M) w w' := (Kept.ofBelow hb).mono (fun _ _ e => e.elim)

/-- What an instruction leaves that was done. -/
def Did (B : Nat) (w : World) (mb : Nat) (s s' : Ms) (td : List Vd) (lk : List (ByteArray × ByteArray)) (M : Nat) (kv : List (ByteArray × Value)) (e : Ending) (w' : World) : Prop := e = .returned (.tuple #[]) ∧ MX w' B mb s' td lk M kv ∧ Kept (Sx s mb M) w w'

/-- What giving up looks like. -/
abbrev gu (st : Int) : Ending := .panicked [{ v := .iface 127 (.agg #[.int .i64 st]), recovered := false }]
def Gave (B : Nat) (w : World) (mb : Nat) (s : Ms) (td : List Vd) (lk : List (ByteArray × ByteArray)) (M : Nat) (kv : List (ByteArray × Value)) (st : Int) (e : Ending) (w' : World) : Prop := e = gu st ∧ MX w' B mb s td lk M kv ∧ Kept (Sx s mb M) w w'

theorem MX.bB (h : MX w B mb s td lk M kv) : B ≤ w.heap.size := Nat.le_trans h.ge (Nat.le_of_lt h.m.lt)

theorem did_set (h : MX w B mb s td lk M kv) (a : Nat) (ha : a < 16) (v : Vd) (o : Obj) : Did B w mb s (s.set a v) td lk M kv (.returned (.tuple #[])) ((((w.setCell ⟨mb, 3 + a * 3, none⟩ (.int .i64 v.k)).setCell ⟨mb, 3 + a * 3 + 1, none⟩ (.int .i64 v.i)).setCell ⟨mb, 3 + a * 3 + 2, none⟩ (.string v.t)).alloc o).drew := by
  have h1 := h.m.setReg a (by omega) (by omega) v
  rw [Int.toNat_natCast] at h1
  have hk : Kept (fun k => k = mb) w (((w.setCell ⟨mb, 3 + a * 3, none⟩ (.int .i64 v.k)).setCell ⟨mb, 3 + a * 3 + 1, none⟩ (.int .i64 v.i)).setCell ⟨mb, 3 + a * 3 + 2, none⟩ (.string v.t)) :=
    (((Kept.refl (fun k => k = mb) w).setCell (p := ⟨mb, 3 + a * 3, none⟩) (fun _ => rfl) _).setCell (p := ⟨mb, 3 + a * 3 + 1, none⟩) (fun _ => rfl) _).setCell (p := ⟨mb, 3 + a * 3 + 2, none⟩) (fun _ => rfl) _
  have hx := (h.own h1 hk rfl rfl rfl).below (((Below.refl _ _).alloc (Nat.le_refl _) o).drew)
  exact ⟨rfl, hx, ksx ((hk.alloc o).drew) (fun k e => .inl e)⟩

set_option maxRecDepth 100000 in
set_option maxHeartbeats 1600000 in
theorem arg_any (x : Ins) (v : Vd) (l : List Vd) (h : MX w B mb s td lk M kv) (ha : Va w s.av l) (h0 : 0 ≤ x.a) (h1 : x.a < 16) (hn : 0 ≤ x.n) (hv : l[x.n.toNat]? = some v) :
    Calls Tryz.prog 85 #[.pointer (some ⟨mb, 0, none⟩), x.val] w (Did B w mb s (s.set x.a v) td lk M kv) := by
  obtain ⟨ao, cap, hav, hcap, hl⟩ := ha
  have hlt := (List.getElem?_eq_some_iff.1 hv).1
  obtain ⟨b, off, rfl, hc⟩ := hl (fun e => by rw [e] at hlt; simp at hlt)
  obtain ⟨d0, d1, d2⟩ := hc _ _ hv
  obtain ⟨-, c1, -⟩ := h.m.cells
  rw [hav] at c1
  obtain ⟨op, a, bb, cc, n, vk, vi, vt⟩ := x
  dsimp only at h0 h1 hn hv hlt d0 d1 d2 ⊢
  obtain ⟨a, rfl⟩ := Int.eq_ofNat_of_zero_le h0
  obtain ⟨n, rfl⟩ := Int.eq_ofNat_of_zero_le hn
  rw [Int.toNat_natCast] at hlt d0 d1 d2
  have hn1 : (n : Int) < (l.length : Int) := by omega
  have ha2 : a < 16 := by omega
  have hbl := World.block_lt_of_cell? _ _ d0
  have hml := h.m.lt
  dsimp only at hbl
  obtain ⟨r0, r1, r2⟩ := h.m.reg a h0 h1
  rw [Int.toNat_natCast] at r0 r1 r2
  have hfz := h.m.free
  have HM := hid h
  clear hc h hl hv
  unfold Ins.val
  go_enter Tryz.func85, Tryz.ntmps85
  go_wp2_with fail
  go_region
  all_goals
    go_end0
    exact did_set HM.out a ha2 v _

set_option maxRecDepth 100000 in
set_option maxHeartbeats 1600000 in
theorem holds_m (x : Ins) (h : MX w B mb s td lk M kv) (b0 : 0 ≤ x.b) (b1 : x.b < 16) (c0 : 0 ≤ x.c) (c1 : x.c < 16) :
    Calls Tryz.prog 129 #[.pointer (some ⟨mb, 0, none⟩), x.val] w fun e w' => e = .returned (.bool (holdsB x.n (cmpV (s.rg x.b).k (s.rg x.b).i (s.rg x.b).t (s.rg x.c).k (s.rg x.c).i (s.rg x.c).t))) ∧ Below w.heap.size w w' := by
  obtain ⟨op, a, b, c, n, vk, vi, vt⟩ := x
  dsimp only at b0 b1 c0 c1 ⊢
  obtain ⟨b, rfl⟩ := Int.eq_ofNat_of_zero_le b0
  obtain ⟨c, rfl⟩ := Int.eq_ofNat_of_zero_le c0
  have hml := h.m.lt
  have hm1 := h.m.below (((Below.refl _ w).alloc (Nat.le_refl _) (io op a b c n vk vi vt)).drew)
  obtain ⟨r0, r1, r2⟩ := hm1.reg b b0 b1
  obtain ⟨q0, q1, q2⟩ := hm1.reg c c0 c1
  rw [Int.toNat_natCast] at r0 r1 r2 q0 q1 q2
  obtain ⟨-, -, y2, y3, y4, -⟩ := cells8 (w := (w.alloc (io op a b c n vk vi vt)).drew) (hp_new w (io op a b c n vk vi vt))
  have HB := hid (show Below w.heap.size w (w.alloc (io op a b c n vk vi vt)).drew from ((Below.refl _ w).alloc (Nat.le_refl _) _).drew)
  have HS := hid (And.intro y2 (And.intro y3 (And.intro y4 (And.intro r0 (And.intro r1 (And.intro r2 (And.intro q0 (And.intro q1 q2))))))))
  clear h hm1 r0 r1 r2 q0 q1 q2 y2 y3 y4
  unfold Ins.val
  go_enter Tryz.func129, Tryz.ntmps129
  go_wp2_with fail
  go_region_held3 (fun wx => wx.cell? ⟨w.heap.size, 2, none⟩ = some (.int .i64 b) ∧ wx.cell? ⟨w.heap.size, 3, none⟩ = some (.int .i64 c) ∧ wx.cell? ⟨w.heap.size, 4, none⟩ = some (.int .i64 n) ∧ wx.cell? ⟨mb, 3 + b * 3, none⟩ = some (.int .i64 (s.rg b).k) ∧ wx.cell? ⟨mb, 3 + b * 3 + 1, none⟩ = some (.int .i64 (s.rg b).i) ∧ wx.cell? ⟨mb, 3 + b * 3 + 2, none⟩ = some (.string (s.rg b).t) ∧ wx.cell? ⟨mb, 3 + c * 3, none⟩ = some (.int .i64 (s.rg c).k) ∧ wx.cell? ⟨mb, 3 + c * 3 + 1, none⟩ = some (.int .i64 (s.rg c).i) ∧ wx.cell? ⟨mb, 3 + c * 3 + 2, none⟩ = some (.string (s.rg c).t))
    (first | exact HS.out | exact HS2.out)
    (first
    | (go_at_call 168
       refine (holds_any n _ _ _ _ _ _ _).mono ?_
       rintro e w2 ⟨rfl, hb2⟩
       have HB2 := hid (below_on HB.out hb2)
       have HS2 := hid (show _ ∧ _ ∧ _ ∧ _ ∧ _ ∧ _ ∧ _ ∧ _ ∧ _ from ⟨(hb2.cell (World.block_lt_of_cell? _ _ HS.out.1)).trans HS.out.1, (hb2.cell (World.block_lt_of_cell? _ _ HS.out.2.1)).trans HS.out.2.1, (hb2.cell (World.block_lt_of_cell? _ _ HS.out.2.2.1)).trans HS.out.2.2.1, (hb2.cell (World.block_lt_of_cell? _ _ HS.out.2.2.2.1)).trans HS.out.2.2.2.1, (hb2.cell (World.block_lt_of_cell? _ _ HS.out.2.2.2.2.1)).trans HS.out.2.2.2.2.1, (hb2.cell (World.block_lt_of_cell? _ _ HS.out.2.2.2.2.2.1)).trans HS.out.2.2.2.2.2.1, (hb2.cell (World.block_lt_of_cell? _ _ HS.out.2.2.2.2.2.2.1)).trans HS.out.2.2.2.2.2.2.1, (hb2.cell (World.block_lt_of_cell? _ _ HS.out.2.2.2.2.2.2.2.1)).trans HS.out.2.2.2.2.2.2.2.1, (hb2.cell (World.block_lt_of_cell? _ _ HS.out.2.2.2.2.2.2.2.2)).trans HS.out.2.2.2.2.2.2.2.2⟩)
       clear hb2))
  all_goals
    go_wp2
    go_ret
    exact ⟨rfl, HB2.out⟩

theorem gaveup (st : Int) (w : World) : Calls Tryz.prog 130 #[.int .i64 st] w fun e w' => e = gu st ∧ w' = w := by
  go_enter Tryz.func130, Tryz.ntmps130
  go_wp2
  exact ⟨rfl, rfl, rfl⟩

end

end Go.Proofs.YthcoigbkdbkojaaGreat

namespace Go.Proofs.YthcoigbkdbkojaaGreat
open Go.RowKit
open V (hp_new hp_lt hp_below hp_alloc)

theorem insist_ok (w : World) : Calls Tryz.prog 161 #[.int .i64 0] w fun e w' => e = .returned (.tuple #[]) ∧ w' = w := by
  go_enter Tryz.func161, Tryz.ntmps161
  go_wp2
  go_end0
  exact ⟨rfl, rfl⟩

theorem insist_range (w : World) : Calls Tryz.prog 161 #[.int .i64 15] w fun e w' => e = gu 3 ∧ w' = w := by
  go_enter Tryz.func161, Tryz.ntmps161
  go_wp2_with (
    go_at_call 130
    refine (gaveup 3 w).mono ?_
    rintro e w' ⟨rfl, e1⟩
    rw [e1]
    clear e1 w')
  exact ⟨rfl, rfl, rfl⟩

section
variable {w w' : World} {B mb M : Nat} {s : Ms} {td : List Vd} {lk : List (ByteArray × ByteArray)} {kv : List (ByteArray × Value)}

theorem did_set0 (h : MX w B mb s td lk M kv) (a : Nat) (ha : a < 16) (v : Vd) : Did B w mb s (s.set a v) td lk M kv (.returned (.tuple #[])) (((w.setCell ⟨mb, 3 + a * 3, none⟩ (.int .i64 v.k)).setCell ⟨mb, 3 + a * 3 + 1, none⟩ (.int .i64 v.i)).setCell ⟨mb, 3 + a * 3 + 2, none⟩ (.string v.t)).drew := by
  have h1 := h.m.setReg a (by omega) (by omega) v
  rw [Int.toNat_natCast] at h1
  have hk : Kept (fun k => k = mb) w (((w.setCell ⟨mb, 3 + a * 3, none⟩ (.int .i64 v.k)).setCell ⟨mb, 3 + a * 3 + 1, none⟩ (.int .i64 v.i)).setCell ⟨mb, 3 + a * 3 + 2, none⟩ (.string v.t)) :=
    (((Kept.refl (fun k => k = mb) w).setCell (p := ⟨mb, 3 + a * 3, none⟩) (fun _ => rfl) _).setCell (p := ⟨mb, 3 + a * 3 + 1, none⟩) (fun _ => rfl) _).setCell (p := ⟨mb, 3 + a * 3 + 2, none⟩) (fun _ => rfl) _
  have hx := (h.own h1 hk rfl rfl rfl).below ((Below.refl _ _).drew)
  exact ⟨rfl, hx, ksx hk.drew (fun k e => .inl e)⟩

set_option maxRecDepth 100000 in
set_option maxHeartbeats 1600000 in
theorem key_ok (r : Int) (t : ByteArray) (h : MX w B mb s td lk M kv) (h0 : 0 ≤ r) (h1 : r < 16) (hk : s.rg r = ⟨2, 0, t⟩) (hz : t.size ≤ 256) (hi : isKeyB t = true) :
    Calls Tryz.prog 121 #[.pointer (some ⟨mb, 0, none⟩), .int .i64 r] w fun e w' => e = .returned (.string t) ∧ Below w.heap.size w w' := by
  obtain ⟨r, rfl⟩ := Int.eq_ofNat_of_zero_le h0
  obtain ⟨r0, r1, r2⟩ := h.m.reg r h0 h1
  rw [Int.toNat_natCast, hk] at r0 r1 r2
  have HK := hid (show ∀ W, Calls Tryz.prog 160 #[vl 2 0 t] W fun e w' => e = .returned (.tuple #[.string t, .int .i64 0]) ∧ Below W.heap.size W w' from fun W => by
    have h2 := key_any 2 0 t W
    unfold keyV at h2
    rw [if_pos ⟨rfl, rfl, hz⟩, if_pos hi] at h2
    exact h2)
  clear h hk hz hi
  go_enter Tryz.func121, Tryz.ntmps121
  go_wp2_with (first
    | (go_at_call 160
       refine (HK.out _).mono ?_
       rintro e w1 ⟨rfl, hb1⟩
       have HB := hid hb1
       clear hb1)
    | (go_at_call 161
       refine (insist_ok _).mono ?_
       rintro e w' ⟨rfl, e1⟩
       rw [e1]
       clear e1 w'))
  go_ret
  exact ⟨rfl, HB.out⟩

set_option maxRecDepth 100000 in
set_option maxHeartbeats 1600000 in
theorem need_any (x : Ins) (h : MX w B mb s td lk M kv) (b0 : 0 ≤ x.b) (b1 : x.b < 16) (c0 : 0 ≤ x.c) (c1 : x.c < 16) (q : Bool) (hq : holdsB x.n (cmpV (s.rg x.b).k (s.rg x.b).i (s.rg x.b).t (s.rg x.c).k (s.rg x.c).i (s.rg x.c).t) = q) :
    Calls Tryz.prog 93 #[.pointer (some ⟨mb, 0, none⟩), x.val] w (if q = true then Did B w mb s s td lk M kv else Gave B w mb s td lk M kv 2) := by
  have hh := fun (W : World) (hb : Below w.heap.size w W) => holds_m x (h.below hb) b0 b1 c0 c1
  simp only [hq] at hh
  obtain ⟨op, a, b, c, n, vk, vi, vt⟩ := x
  have HH := hid hh
  have HX := hid (And.intro h (show Below w.heap.size w (w.alloc (io op a b c n vk vi vt)) from below1 w _))
  clear h hh hq b0 b1 c0 c1
  unfold Ins.val at HH ⊢
  dsimp only at HH ⊢
  cases q
  · simp only [Bool.false_eq_true, if_false]
    go_enter Tryz.func93, Tryz.ntmps93
    go_wp2_with (first
      | (go_at_call 129
         refine (HH.out _ HX.out.2).mono ?_
         rintro e w1 ⟨rfl, hb1⟩
         have HB := hid (below_on HX.out.2 hb1)
         clear hb1)
      | (go_at_call 130
         refine (gaveup 2 _).mono ?_
         rintro e w' ⟨rfl, e1⟩
         rw [e1]
         clear e1 w'))
    exact ⟨rfl, rfl, HX.out.1.below HB.out, bsx HB.out⟩
  · simp only [if_true]
    go_enter Tryz.func93, Tryz.ntmps93
    go_wp2_with (first
      | (go_at_call 129
         refine (HH.out _ HX.out.2).mono ?_
         rintro e w1 ⟨rfl, hb1⟩
         have HB := hid (below_on HX.out.2 hb1)
         clear hb1))
    go_end0
    exact ⟨rfl, HX.out.1.below HB.out, bsx HB.out⟩

end

end Go.Proofs.YthcoigbkdbkojaaGreat

namespace Go.Proofs.YthcoigbkdbkojaaGreat
open Go.RowKit
open V (hp_new hp_lt hp_below hp_alloc)

theorem Tryz.info61 : (Tryz.prog.info? 61).map (fun i => (i.zero, i.size, i.bytes)) = some (some (.agg #[.string ⟨#[]⟩, .string ⟨#[]⟩]), 2, 32) := by kernel_rfl
theorem Tryz.info28 : (Tryz.prog.info? 28).map (fun i => (i.zero, i.size, i.bytes)) = some (some (.agg #[.int .i64 0, .int .i64 0, .string ⟨#[]⟩]), 3, 32) := by kernel_rfl

theorem ones2 (a b : Value) (h1 : a.oneCell' = true) (h2 : b.oneCell' = true) : ∀ u ∈ (#[a, b] : Array Value).toList, u.oneCell' = true := by
  intro u hu
  simp at hu
  rcases hu with rfl | rfl <;> assumption

section
variable {w w' : World} {B mb M : Nat} {s : Ms} {td : List Vd} {lk : List (ByteArray × ByteArray)} {kv : List (ByteArray × Value)}

/-- A look more. -/
theorem MX.addLook (h : MX w B mb s td lk M kv) {w1 w2 : World} {v' : Value} {f t : ByteArray} (hb : Below w.heap.size w w1) (hown : w2.ownsRow B 61 2 v' (lk.length + 1) (lk.flatMap lcs ++ [.string f, .string t])) (hg : w1.grownBy w2 s.lv.ownBlock) (_hx : ∀ k, v'.ownBlock = some k → s.lv.ownBlock = some k ∨ w.heap.size ≤ k) :
    MX (w2.setCell ⟨mb, 53, none⟩ v') B mb { s with lv := v' } td (lk ++ [(f, t)]) M kv ∧ Below B w (w2.setCell ⟨mb, 53, none⟩ v') ∧ Kept (fun k => k = mb ∨ s.lv.ownBlock = some k) w (w2.setCell ⟨mb, 53, none⟩ v') := by
  obtain ⟨cs, hbm, -⟩ := h.m.ex
  have hk12 : Kept (fun k => s.lv.ownBlock = some k) w1 w2 := (Kept.refl _ w1).grown hg (fun _ _ e => e)
  have hk : Kept (fun k => s.lv.ownBlock = some k) w w2 := ((Kept.ofBelow hb).mono (S' := fun k => s.lv.ownBlock = some k) (fun _ _ e => e.elim)).trans hk12 (fun _ _ e => e)
  have hml := h.m.lt
  have hnm : ¬ s.lv.ownBlock = some mb := fun e => owns_blk h.lk e hbm (fun cs e => by injection e with _ e; cases e)
  have hm2 := h.m.kept hk hnm
  have hks : Kept (fun k => k = mb) w2 (w2.setCell ⟨mb, 53, none⟩ v') := (Kept.refl (fun k => k = mb) w2).setCell (p := ⟨mb, 53, none⟩) (fun _ => rfl) _
  obtain ⟨cs2, hbm2, -⟩ := hm2.ex
  have htd2 := ownsRow_kept h.td hk (fun k e e2 => owns_ne h.td h.lk (by decide) k e e2)
  refine ⟨⟨hm2.setLooks v', h.ge, ?_, ?_, h.wv, ?_, h.gm⟩, ?_, (hk.mono (S' := fun k => k = mb ∨ s.lv.ownBlock = some k) (fun _ _ e => .inr e)).trans hks (fun _ _ e => .inl e)⟩
  · exact ownsRow_kept htd2 hks (fun k e e2 => owns_blk htd2 (k := mb) (o := .cells cs2 82 (0, 0)) (by rw [← e2]; exact e) hbm2 (fun cs e => by injection e with _ e; cases e))
  · have e1 : (lk ++ [(f, t)]).flatMap lcs = lk.flatMap lcs ++ [.string f, .string t] := by rw [List.flatMap_append]; rfl
    have e2 : (lk ++ [(f, t)]).length = lk.length + 1 := by simp
    rw [e1, e2]
    exact ownsRow_kept hown hks (fun k e e2 => owns_blk hown (k := mb) (o := .cells cs2 82 (0, 0)) (by rw [← e2]; exact e) hbm2 (fun cs e => by injection e with _ e; cases e))
  · obtain ⟨es, c, g⟩ := h.mg
    have g2 := g.kept hk (fun e => owns_blk h.lk e g.blk (fun cs e => by cases e))
    exact ⟨es, c, g2.kept hks (fun e => by have h1 := g2.blk; rw [e, hbm2] at h1; cases h1)⟩
  · have hb2 : Below B w w2 := hk.below h.bB (fun k hk e => by have := (h.lk.lt k e).1; omega)
    exact hb2.setCell (p := ⟨mb, 53, none⟩) h.ge _

set_option maxRecDepth 100000 in
set_option maxHeartbeats 3200000 in
theorem look_m (f t : ByteArray) (h : MX w B mb s td lk M kv) (hl : lk.length ≤ 1000) (hf : f.size ≤ 1000000) (ht : t.size ≤ 1000000) :
    Calls Tryz.prog 122 #[.pointer (some ⟨mb, 0, none⟩), .string f, .string t] w fun e w' => e = .returned (.tuple #[]) ∧ (∃ v', MX w' B mb { s with lv := v' } td (lk ++ [(f, t)]) M kv) ∧ Below B w w' ∧ Kept (fun k => k = mb ∨ s.lv.ownBlock = some k) w w' := by
  obtain ⟨al, cl, hlv⟩ := own_shape h.lk
  obtain ⟨-, -, -, -, -, c5⟩ := h.m.cells
  rw [hlv] at c5
  have hlk := h.lk
  rw [hlv] at hlk
  have hml := h.m.lt
  have hfz := h.m.free
  have hc1 := fun W => strClone_any f W (by omega)
  have hc2 := fun W => strClone_any t W (by omega)
  have HC1 := hid hc1
  have HC2 := hid hc2
  have HX := hid (And.intro h (And.intro hlv hlk))
  have HS0 := hid (show ∀ W, Below w.heap.size w W → W.cell? ⟨mb, 53, none⟩ = some (.slice al lk.length cl) ∧ ∀ o, W.frozen? ⟨mb, o, none⟩ = false from fun W hb => ⟨(hb.cell (p := ⟨mb, 53, none⟩) hml).trans c5, (h.m.below hb).free⟩)
  have HNM := hid (show ∀ W, Kept (fun k => (Value.slice al lk.length cl).ownBlock = some k) w W → Mb W mb s ∧ W.cell? ⟨mb, 53, none⟩ = some (.slice al lk.length cl) from fun W hk => by
    obtain ⟨cs, hbm, -⟩ := h.m.ex
    have h2 := h.m.kept hk (fun e => owns_blk hlk e hbm (fun cs e => by injection e with _ e; cases e))
    obtain ⟨-, -, -, -, -, c⟩ := h2.cells
    rw [hlv] at c
    exact ⟨h2, c⟩)
  clear h hlv hlk hc1 hc2
  go_enter Tryz.func122, Tryz.ntmps122
  go_wp2_with fail
  go_region_law
    (first
      | (refine step_append_rf _ (by rfl) (.tmp 10) (.tmp 16) 41 61 _ 2 32 (by rfl) Tryz.underlying41 Tryz.info61 rfl (by omega) B (.slice al lk.length cl) lk.length (lk.flatMap lcs) (by rfl) (HO.out.alloc _) (.slice (some ⟨w2.heap.size, 0, none⟩) 1 1) 1 [.string f, .string t] (by rfl) (rf_new w2 61 #[.string f, .string t] 2 rfl (ones2 _ _ rfl rfl)) (by omega) (by unfold maxLen; omega) HZ.out ?_; intro a9 c9 w9 hown hgr hob; have HGR := hid (And.intro hown.out (And.intro hgr.out hob.out)); have hm9 := HNM.out w9 (((Kept.ofBelow HB2.out).mono (S' := fun k => (Value.slice al lk.length cl).ownBlock = some k) (fun _ _ e => e.elim)).trans (((Kept.refl _ w2).alloc _).grown hgr.out (fun _ _ e => e)) (fun _ _ e => e)); have k5 := hm9.2; have hfz9 := hm9.1.free; have hml9 := hm9.1.lt; clear hown hgr hob hm9)
      | (go_simp; go_wp2_with (first
          | (go_at_call 70; (with_reducible show Calls _ _ #[.string f] _ _); refine (HC1.out _).mono ?_; rintro e w1 ⟨rfl, hb1⟩; have HB1 := hid (show Below w.heap.size w w1 from ⟨hb1.os, hb1.tape, hb1.output, hb1.size, hb1.block⟩); have k1 := (HS0.out w1 HB1.out).1; clear hb1)
          | (go_at_call 70; (with_reducible show Calls _ _ #[.string t] _ _); refine (HC2.out _).mono ?_; rintro e w2 ⟨rfl, hb2⟩; have HB2 := hid (below_on HB1.out hb2); have HO := hid (ownsRow_kept HX.out.2.2 (Kept.ofBelow HB2.out) (fun _ _ e => e)); have HZ := hid (show B ≤ (w2.alloc (.cells #[.string f, .string t] 61)).heap.size by have h1 := HX.out.1.bB; have h2 := HB2.out.size; simp; omega); have k2 := (HS0.out w2 HB2.out).1; have k3 := (HS0.out (w2.alloc (.cells #[.string f, .string t] 61)) (HB2.out.alloc HB2.out.size _)).1; clear hb2))))
  all_goals
    go_end0
    have ha := HX.out.1.addLook (w1 := w2.alloc (.cells #[.string f, .string t] 61)) (HB2.out.alloc HB2.out.size _) HGR.out.1 (by rw [HX.out.2.1]; exact HGR.out.2.1) (fun k e => by
      rw [HX.out.2.1]
      rcases HGR.out.2.2 with e2 | e2
      · exact .inl (e2 ▸ e)
      · rw [e2] at e
        injection e with e
        have h2 := HB2.out.size
        simp at e
        exact .inr (by omega))
    exact ⟨rfl, ⟨_, ha.1⟩, ha.2.1, ha.2.2⟩

end

end Go.Proofs.YthcoigbkdbkojaaGreat

namespace Go.Proofs.YthcoigbkdbkojaaGreat
open Go.RowKit
open V (hp_new hp_lt hp_below hp_alloc)

theorem lookup_none_of {κ : Type} [DecidableEq κ] {k : κ} : ∀ {kv : List (κ × Value)}, k ∉ kv.map Prod.fst → kv.lookup k = none
  | [], _ => rfl
  | x :: kv, h => by
    simp at h
    rw [List.lookup_cons, show (k == x.1) = false by simpa using fun e => h.1 (by rw [e])]
    exact lookup_none_of (by simpa using h.2)

theorem zero28 (w : World) : (zeroValue 28).run Tryz.prog w = .ok (vl 0 0 emp) w := by kernel_rfl

section
variable {w w' : World} {B mb M : Nat} {s : Ms} {td : List Vd} {lk : List (ByteArray × ByteArray)} {kv : List (ByteArray × Value)}

theorem MX.lookNo (h : MX w B mb s td lk M kv) (key : ByteArray) (hn : key ∉ kv.map Prod.fst) : (Instr.lookup 79 (.map (some M)) (.string key) true).run Tryz.prog w = .ok (.tuple #[vl 0 0 emp, .bool false]) w := by
  obtain ⟨es, c, g⟩ := h.mg
  have h1 := g.look Tryz.underlying79 Tryz.underlying9 (zero28 w) key true
  rw [lookup_none_of hn] at h1
  exact h1

set_option maxRecDepth 100000 in
set_option maxHeartbeats 3200000 in
theorem seen_m (key : ByteArray) (p : Nat) (g : ByteArray → Option V.Pd) (n B0 : Nat) (v : V.Pd) (h : MX w B mb s td lk M kv) (hv : s.vw = .iface 35 (.pointer (some ⟨p, 0, none⟩))) (hp : V.PV w p g false n B0) (hn : key ∉ kv.map Prod.fst) (hg : g key = some v) :
    Calls Tryz.prog 123 #[.pointer (some ⟨mb, 0, none⟩), .string key] w fun e w' => e = .returned (vl v.n v.a v.ao) ∧ Below w.heap.size w w' := by
  have hb1 : Below w.heap.size w (w.alloc (vo 0 0 emp)) := below1 w _
  have hb2 : Below w.heap.size w ((w.alloc (vo 0 0 emp)).alloc (vo 0 0 emp)) := below_on hb1 (below1 _ _)
  have h1 := h.below hb1
  have h2 := h.below hb2
  have hl1 := h1.lookNo key hn
  obtain ⟨a0, -, -, -, a4, -⟩ := h1.m.cells
  obtain ⟨e0, -, -, -, e4, -⟩ := h2.m.cells
  rw [hv] at a0 e0
  rw [h.wv] at a4 e4
  have hml := h.m.lt
  have hpg := V.pget p key g false n B0 _ (hp.below hb2)
  have HG := hid (show Calls Tryz.prog 40 #[.pointer (some ⟨p, 0, none⟩), .string key] ((w.alloc (vo 0 0 emp)).alloc (vo 0 0 emp)) fun e w' => e = .returned (.tuple #[vl v.n v.a v.ao, .bool true]) ∧ Below w.heap.size w w' ∧ w'.heap[w.heap.size]? = some (vo 0 0 emp) from by
    refine hpg.mono ?_
    rintro e w' ⟨⟨r, q, rfl, hr⟩, hb⟩
    obtain ⟨rfl, rfl⟩ := hr.out v hg
    exact ⟨rfl, below_on hb2 hb.out, blk_of hb.out (two1 w _ _) (by simp; omega)⟩)
  clear h h1 h2 hv hp hn hg hpg hb1 hb2
  go_enter Tryz.func123, Tryz.ntmps123
  go_wp2_with (first
    | (go_at_call 40
       refine HG.out.mono ?_
       rintro e w3 ⟨rfl, hb3, hr3⟩
       have hw3 := hp_lt hr3
       obtain ⟨k0, k1, k2, k3⟩ := vfacts hr3
       have HB := hid (And.intro hb3 hr3)
       clear hb3 hr3))
  refine bodyPost_ret (ret_agg Tryz.results123 rfl (hp_alloc (set3 HB.out.2 _ _ _) _)) rfl ?_
  exact ⟨rfl, ((((HB.out.1.setCell (p := ⟨w.heap.size, 0, none⟩) (Nat.le_refl _) _).setCell (p := ⟨w.heap.size, 1, none⟩) (Nat.le_refl _) _).setCell (p := ⟨w.heap.size, 2, none⟩) (Nat.le_refl _) _).alloc (by have := HB.out.1.size; simp; omega) _)⟩

end

end Go.Proofs.YthcoigbkdbkojaaGreat
