import Derived.Test.YtlmompdfombgeaaGreatK11
import Derived.Test.YtlmompdfombgeaaGreatK07
import Derived.Test.YtlmompdfombgeaaGreatK08
namespace Go.Proofs.YtlmompdfombgeaaGreat
open Go.RowKit Go.MapKept

theorem map_erase {α β : Type} (f : α → β) : ∀ (l : List α) (j : Nat), (l.eraseIdx j).map f = (l.map f).eraseIdx j
  | [], _ => rfl
  | _ :: _, 0 => rfl
  | x :: l, j + 1 => by simp [map_erase f l j]

section
variable {κ : Type} [DecidableEq κ]

/-- Without a key. -/
def delK (k : κ) (kv : List (κ × Value)) : List (κ × Value) := kv.filter (fun x => !(x.1 == k))
/-- With a key's value. -/
def setK (k : κ) (v : Value) (kv : List (κ × Value)) : List (κ × Value) := if kv.lookup k = none then kv ++ [(k, v)] else kv.map (fun x => if x.1 = k then (k, v) else x)

theorem delK_none {k : κ} {kv : List (κ × Value)} (h : kv.lookup k = none) : delK k kv = kv := by
  have := lookup_none_mem h
  unfold delK
  rw [List.filter_eq_self]
  intro x hx
  have : x.1 ≠ k := fun e => this (List.mem_map.2 ⟨x, hx, e⟩)
  simpa using this

theorem delK_at {k : κ} {v : Value} : ∀ {kv : List (κ × Value)} {j : Nat}, (kv.map Prod.fst).Nodup → kv[j]? = some (k, v) → kv.eraseIdx j = delK k kv
  | [], j, _, h => by simp at h
  | x :: kv, 0, hn, h => by
    simp at h
    subst h
    rw [List.map_cons, List.nodup_cons] at hn
    have : kv.lookup k = none := lookup_none_of hn.1
    simp only [List.eraseIdx_zero, List.tail_cons]
    unfold delK
    rw [List.filter_cons, if_neg (by simp)]
    exact (delK_none this).symm
  | x :: kv, j + 1, hn, h => by
    simp at h
    rw [List.map_cons, List.nodup_cons] at hn
    have hx : x.1 ≠ k := fun e => hn.1 (by rw [e]; exact List.mem_map.2 ⟨(k, v), List.mem_of_getElem? h, rfl⟩)
    rw [List.eraseIdx_cons_succ, delK_at hn.2 h]
    unfold delK
    rw [List.filter_cons, if_pos (by simpa using hx)]

variable {K : Ky κ} {w w' : World} {b c : Nat} {kv : List (κ × Value)} {es : Array MapEntry}

theorem MG.del (h : MG K w b kv es c) {k : κ} {v : Value} {j : Nat} (hj : kv[j]? = some (k, v)) (hb : w'.heap[b]? = some (.map (es.eraseIdxIfInBounds j) c)) : MG K w' b (delK k kv) (es.eraseIdxIfInBounds j) c := by
  have e1 : (es.eraseIdxIfInBounds j).toList = es.toList.eraseIdx j := by simp
  have hsub : (es.eraseIdxIfInBounds j).toList.Sublist es.toList := by rw [e1]; exact List.eraseIdx_sublist _ _
  refine ⟨hb, fun x hx => h.hold x (hsub.subset hx), (hsub.map _).nodup h.nd, ?_, ?_⟩
  · rw [e1, ← delK_at h.keys hj, map_erase, map_erase, h.kvs]
  · exact ((List.filter_sublist).map _).nodup h.keys

/-- delete. -/
theorem MG.delete (h : MG K w b kv es c) (k : κ) {t kt e : TypeId} (ht : Tryz.prog.underlying t = some (.map kt e)) (hk : Tryz.prog.underlying kt = some K.d) (tys : Array TypeId) (hty : tys[0]? = some t) (ty : TypeId) :
    ∃ es', (Builtin.delete_ tys ty #[.map (some b), K.enc k]).run Tryz.prog w = .ok (.tuple #[]) (puts w b (.map es' c)) ∧ MG K (puts w b (.map es' c)) b (delK k kv) es' c := by
  rcases find_kv K k es.toList kv 0 h.kvs with ⟨h1, h2⟩ | ⟨v, j, h1, h3, h4⟩
  · refine ⟨es, ?_, ?_⟩
    · simp only [Builtin.delete_, hty, List.getElem?_toArray, List.getElem?_cons_zero, List.getElem?_cons_succ, Sem.run_bind, run_underlying ht, Result.andThen, MapKept.run_getObj_map h.blk, MapKept.run_checkKey hk (K.key k), run_findKey hk h2, MapKept.run_setObj_map _ h.blk, Sem.run_pure, puts]
    · rw [delK_none h1]
      exact ⟨puts_same h.blk, h.hold, h.nd, h.kvs, h.keys⟩
  · rw [Nat.zero_add] at h4
    refine ⟨es.eraseIdxIfInBounds j, ?_, h.del h3 (puts_same h.blk)⟩
    simp only [Builtin.delete_, hty, List.getElem?_toArray, List.getElem?_cons_zero, List.getElem?_cons_succ, Sem.run_bind, run_underlying ht, Result.andThen, MapKept.run_getObj_map h.blk, MapKept.run_checkKey hk (K.key k), run_findKey hk h4, MapKept.run_setObj_map _ h.blk, Sem.run_pure, puts]

theorem setK_at {k : κ} {v v0 : Value} : ∀ {kv : List (κ × Value)} {j : Nat}, (kv.map Prod.fst).Nodup → kv[j]? = some (k, v0) → kv.set j (k, v) = kv.map (fun x => if x.1 = k then (k, v) else x)
  | [], j, _, h => by simp at h
  | x :: kv, 0, hn, h => by
    simp at h
    subst h
    rw [List.map_cons, List.nodup_cons] at hn
    rw [List.set_cons_zero, List.map_cons, if_pos rfl]
    congr 1
    rw [eq_comm, List.map_congr_left (g := id), List.map_id]
    intro y hy
    rw [if_neg (fun e => hn.1 (by rw [← e]; exact List.mem_map.2 ⟨y, hy, rfl⟩))]
    rfl
  | x :: kv, j + 1, hn, h => by
    simp at h
    rw [List.map_cons, List.nodup_cons] at hn
    have hx : x.1 ≠ k := fun e => hn.1 (by rw [e]; exact List.mem_map.2 ⟨(k, v0), List.mem_of_getElem? h, rfl⟩)
    rw [List.set_cons_succ, List.map_cons, if_neg hx, setK_at hn.2 h]

/-- m[k] = v. -/
theorem MG.update (h : MG K w b kv es c) (k : κ) (v : Value) {t kt e : TypeId} (ht : Tryz.prog.underlying t = some (.map kt e)) (hk : Tryz.prog.underlying kt = some K.d) :
    ∃ es' c', (Instr.mapUpdate t (.map (some b)) (K.enc k) v).run Tryz.prog w = .ok () (puts w b (.map es' c')) ∧ MG K (puts w b (.map es' c')) b (setK k v kv) es' c' := by
  rcases find_kv K k es.toList kv 0 h.kvs with ⟨h1, h2⟩ | ⟨v0, j, h1, h3, h4⟩
  · refine ⟨_, _, upd_new ht hk h.blk (K.key k) v h2, ?_⟩
    unfold setK
    rw [if_pos h1]
    exact h.push k v h1 (puts_same h.blk)
  · rw [Nat.zero_add] at h4
    have hjl : j < es.size := by
      rw [h.size]
      rcases Nat.lt_or_ge j kv.length with h | h
      · exact h
      · rw [List.getElem?_eq_none h] at h3; cases h3
    have hkey : es[j].key = K.enc k := by
      have := congrArg (fun l => (l[j]?).map Prod.fst) h.kvs
      simp [hjl, h3] at this
      exact this
    refine ⟨es.modify j fun e => { e with key := K.enc k, val := v }, c, ?_, ?_⟩
    · have hst := run_keyThatStays (P := Tryz.prog) (w := w) (K.key k)
      simp only [Instr.mapUpdate, Sem.run_bind, run_underlying ht, Result.andThen, MapKept.run_getObj_map h.blk, MapKept.run_checkKey hk (K.key k), run_findKey hk h4, Array.getElem?_eq_getElem hjl, Option.map_some, Option.getD_some, hkey, hst, MapKept.run_setObj_map _ h.blk, puts]
    · have hml : (es.modify j fun e => { e with key := K.enc k, val := v }).toList = es.toList.set j { es[j] with key := K.enc k, val := v } := by
        apply List.ext_getElem?
        intro i
        rw [List.getElem?_set]
        by_cases e : j = i
        · subst e
          simp [hjl]
        · simp [e]
      have hb1 : (es.toList.set j { es[j] with key := K.enc k, val := v }).map MapEntry.born = es.toList.map MapEntry.born := by
        rw [List.map_set]
        have : es[j].born = (es.toList.map MapEntry.born)[j]'(by simpa using hjl) := by simp
        dsimp only
        rw [this, List.set_getElem_self]
      have hkv : (es.toList.set j { es[j] with key := K.enc k, val := v }).map (fun e => (e.key, e.val)) = (kv.set j (k, v)).map (fun x => (K.enc x.1, x.2)) := by
        rw [List.map_set, List.map_set, h.kvs]
      have hks : (kv.set j (k, v)).map Prod.fst = kv.map Prod.fst := by
        rw [List.map_set]
        have hjl2 : j < kv.length := by rw [← h.size]; exact hjl
        have : k = (kv.map Prod.fst)[j]'(by simpa using hjl2) := by
          have h5 : kv[j] = (k, v0) := by simpa [hjl2] using h3
          simp [h5]
        dsimp only
        conv => lhs; rw [this]
        rw [List.set_getElem_self]
      have hset : setK k v kv = kv.set j (k, v) := by
        unfold setK
        rw [if_neg (by rw [h1]; simp), setK_at h.keys h3]
      rw [hset]
      refine ⟨puts_same h.blk, ?_, ?_, ?_, ?_⟩
      · intro x hx
        rw [hml] at hx
        have hxb : x.born ∈ (es.toList.set j { es[j] with key := K.enc k, val := v }).map MapEntry.born := List.mem_map.2 ⟨x, hx, rfl⟩
        rw [hb1] at hxb
        obtain ⟨y, hy, hyb⟩ := List.mem_map.1 hxb
        rw [← hyb]
        exact h.hold y hy
      · rw [hml, hb1]
        exact h.nd
      · rw [hml, hkv]
      · rw [hks]
        exact h.keys

end
end Go.Proofs.YtlmompdfombgeaaGreat

namespace Go.Proofs.YtlmompdfombgeaaGreat
open Go.RowKit Go.MapKept

section
variable {κ : Type} [DecidableEq κ] {K : Ky κ}

theorem wpList_del_gen (w : World) {ops : Array Oper} {rest : List Oper} {o : Oper} {a : Act} {Q : Exit → Act → World → Prop}
    (hg : o.guard = none) (m x : Operand) (t : TypeId) (tys : Array TypeId) (hop : o.op = .call { callee := .builtin .delete, args := #[m, x], argTypes := tys }) (hty : tys[0]? = some t)
    (kt e : TypeId) (ht : Tryz.prog.underlying t = some (.map kt e)) (hk : Tryz.prog.underlying kt = some K.d) (b : Nat) (kv : List (κ × Value)) (es : Array MapEntry) (c : Nat) (h : MG K w b kv es c)
    (hm : a.eval m = .map (some b)) (k : κ) (hx : a.eval x = K.enc k)
    (hK : ∀ es' w', Hid (MG K w' b (delK k kv) es' c) → Hid (w.grownBy w' (some b)) → Hid (w'.heap.size = w.heap.size) → wpList Tryz.prog ops Q rest (a.put o.dst (.tuple #[])) w') :
    wpList Tryz.prog ops Q (o :: rest) a w := by
  refine wpList_plain hg fun K' hK' => ?_
  obtain ⟨es', hrun, hM⟩ := h.delete k ht hk tys hty o.type
  unfold Oper.wp execOp
  simp only [hop, resolve, invoke, builtin, Sem.run_bind, Sem.run_pure, Result.andThen_ok, List.map_toArray, List.map_cons, List.map_nil, hm, hx, hrun]
  exact hK' _ _ (hK es' _ (hid hM) (hid (puts_grown _ _ _)) (hid (puts_size _ _ _)))

theorem wpList_upd_gen (w : World) {ops : Array Oper} {rest : List Oper} {o : Oper} {a : Act} {Q : Exit → Act → World → Prop}
    (hg : o.guard = none) (m x v : Operand) (t : TypeId) (hop : o.op = Op.mapUpdate t m x v)
    (kt e : TypeId) (ht : Tryz.prog.underlying t = some (.map kt e)) (hk : Tryz.prog.underlying kt = some K.d) (b : Nat) (kv : List (κ × Value)) (es : Array MapEntry) (c : Nat) (h : MG K w b kv es c)
    (hm : a.eval m = .map (some b)) (k : κ) (val : Value) (hx : a.eval x = K.enc k) (hv : a.eval v = val)
    (hK : ∀ es' c' w', Hid (MG K w' b (setK k val kv) es' c') → Hid (w.grownBy w' (some b)) → Hid (w'.heap.size = w.heap.size) → wpList Tryz.prog ops Q rest (a.put o.dst undef) w') :
    wpList Tryz.prog ops Q (o :: rest) a w := by
  refine wpList_plain hg fun K' hK' => ?_
  obtain ⟨es', c', hrun, hM⟩ := h.update k val ht hk
  unfold Oper.wp
  simp only [execOp, hop, hm, hx, hv, Sem.run_bind, hrun, Result.andThen, Sem.run_pure]
  exact hK' _ _ (hK es' c' _ (hid hM) (hid (puts_grown _ _ _)) (hid (puts_size _ _ _)))

end

/-- A change of the names. -/
def doN (frm to : ByteArray) (file : Int) (nv : List (ByteArray × Value)) : List (ByteArray × Value) := if to.toList.isEmpty then delK frm nv else setK to (.int .i64 file) (delK frm nv)

theorem MG.grown {κ : Type} [DecidableEq κ] {K : Ky κ} {w w' : World} {b c : Nat} {kv : List (κ × Value)} {es : Array MapEntry} {r : Option Nat} (h : MG K w b kv es c) (hg : w.grownBy w' r) (hn : r ≠ some b) : MG K w' b kv es c := ⟨(hg.block b (hp_lt h.blk) (fun e => hn e.symm)).trans h.blk, h.hold, h.nd, h.kvs, h.keys⟩

set_option maxRecDepth 100000 in
set_option maxHeartbeats 1000000 in
theorem do_gen (frm to : ByteArray) (file : Int) (b : Nat) (nv : List (ByteArray × Value)) (es : Array MapEntry) (c : Nat) (w : World) (h : MG KS w b nv es c) :
    Calls Tryz.prog 95 #[.agg #[.string frm, .string to, .int .i64 file], .map (some b)] w fun x w' => x = .returned (.tuple #[]) ∧ (∃ es' c', MG KS w' b (doN frm to file nv) es' c') ∧ Kept (fun k => k = b) w w' := by
  have hl := hp_lt h.blk
  have H := hid h
  clear h
  cases he : to.toList.isEmpty
  · have hd : doN frm to file nv = setK to (.int .i64 file) (delK frm nv) := by simp [doN, he]
    rw [hd]
    clear hd
    go_enter Tryz.func95, Tryz.ntmps95
    go_wp2_with (first
      | (at_delete
         refine wpList_del_gen (K := KS) _ rfl _ _ 47 _ rfl rfl 9 3 Tryz.underlying47 Tryz.underlying9 b nv es c (H.out.below ((Below.refl _ _).alloc (Nat.le_refl _) _)) rfl frm rfl ?_
         intro es1 w1 hM1 hg1 hs1
         have f1 := hg1.out.cell_far ⟨w.heap.size, 1, none⟩ (by simp) (by simp; omega)
         have f2 := hg1.out.cell_far ⟨w.heap.size, 2, none⟩ (by simp) (by simp; omega))
      | (at_mapUpdate
         refine wpList_upd_gen (K := KS) _ rfl _ _ _ 47 rfl 9 3 Tryz.underlying47 Tryz.underlying9 b _ es1 c hM1.out rfl to _ rfl rfl ?_
         intro es2 c2 w2 hM2 hg2 hs2))
    go_end0
    exact ⟨rfl, ⟨es2, c2, hM2.out⟩, (((Kept.refl (fun k => k = b) w).alloc _).grown hg1.out (fun k _ e => by cases e; rfl)).grown hg2.out (fun k _ e => by cases e; rfl)⟩
  · have hd : doN frm to file nv = delK frm nv := by simp [doN, he]
    rw [hd]
    clear hd
    go_enter Tryz.func95, Tryz.ntmps95
    go_wp2_with (first
      | (at_delete
         refine wpList_del_gen (K := KS) _ rfl _ _ 47 _ rfl rfl 9 3 Tryz.underlying47 Tryz.underlying9 b nv es c (H.out.below ((Below.refl _ _).alloc (Nat.le_refl _) _)) rfl frm rfl ?_
         intro es1 w1 hM1 hg1 hs1
         have f1 := hg1.out.cell_far ⟨w.heap.size, 1, none⟩ (by simp) (by simp; omega)
         have f2 := hg1.out.cell_far ⟨w.heap.size, 2, none⟩ (by simp) (by simp; omega)))
    go_end0
    exact ⟨rfl, ⟨es1, c, hM1.out⟩, ((Kept.refl (fun k => k = b) w).alloc _).grown hg1.out (fun k _ e => by cases e; rfl)⟩

end Go.Proofs.YtlmompdfombgeaaGreat

namespace Go.Proofs.YtlmompdfombgeaaGreat
open Go.RowKit Go.MapKept Go.Maps Go.Sort Go.Shelf

/-- A text of these bytes. -/
def bsOf (s : List UInt8) : ByteArray := ⟨s.toArray⟩

/-- A key's value. -/
def lk {κ : Type} [DecidableEq κ] (k : κ) (kv : List (κ × Value)) : Option Value := kv.lookup k

/-- The number of a name. -/
def noOf (nv : List (ByteArray × Value)) (s : List UInt8) : Int := iv ((lk (bsOf s) nv).getD (.int .i64 0))

/-- Rows of names and blocks of bytes. -/
def tcs (cont : Int → List Int) (nv : List (ByteArray × Value)) (x : List UInt8 × Nat) : List Value := [.string (bsOf x.1), .slice (some ⟨x.2, 0, none⟩) (cont (noOf nv x.1)).length (cont (noOf nv x.1)).length]

theorem lookup_mem {κ : Type} [DecidableEq κ] {x : κ × Value} : ∀ {kv : List (κ × Value)}, (kv.map Prod.fst).Nodup → x ∈ kv → kv.lookup x.1 = some x.2
  | [], _, h => by simp at h
  | y :: kv, hn, h => by
    rw [List.map_cons, List.nodup_cons] at hn
    rw [List.lookup_cons]
    rcases List.mem_cons.1 h with rfl | h
    · simp
    · have hne : x.1 ≠ y.1 := fun e => hn.1 (by rw [← e]; exact List.mem_map.2 ⟨x, h, rfl⟩)
      rw [show (x.1 == y.1) = false by simpa using hne]
      exact lookup_mem hn.2 h

set_option maxRecDepth 100000 in
set_option maxHeartbeats 1600000 in
theorem told_gen (B b c fn : Nat) (nv : List (ByteArray × Value)) (es : Array MapEntry) (lb : Array Value) (cont : Int → List Int) (w : World) (h : MG KS w b nv es c) (hs : ∀ x ∈ nv, x.1.size ≤ maxLen) (hn : nv.length ≤ 1000000) (hint : ∀ x ∈ nv, x.2 = .int .i64 (iv x.2)) (_hB : B ≤ w.heap.size)
    (he : ∀ args w, (callFunc fn args).run Tryz.prog w = .ok (.enter fn args) w) (hdata : ∀ x ∈ nv, ∀ w1, Below w.heap.size w w1 → Calls Tryz.prog fn (#[x.2] ++ lb) w1 fun e w2 => ∃ Y, e = .returned (.slice (some ⟨Y, 0, none⟩) (cont (iv x.2)).length (cont (iv x.2)).length) ∧ Own w2 Y (cont (iv x.2)) ∧ B ≤ Y ∧ Below w1.heap.size w1 w2) :
    Calls Tryz.prog 96 #[.map (some b), .func (.func fn) #[] lb] w fun x w' => ∃ (v : Value) (ys : List Nat), x = .returned v ∧ w'.ownsRow w.heap.size 93 2 v nv.length (((sk nv).zip ys).flatMap (tcs cont nv)) ∧ ys.length = nv.length ∧ (∀ (i : Nat) (s : List UInt8) (Y : Nat), (sk nv)[i]? = some s → ys[i]? = some Y → Own w' Y (cont (noOf nv s)) ∧ B ≤ Y) ∧ Below w.heap.size w w' := by
  obtain ⟨i0, hi, hz0, hz1, hz2⟩ := info_parts Tryz.info93
  have HM := hid h
  have HD := hid (And.intro hdata hint)
  clear h hdata hint
  go_enter Tryz.func96, Tryz.ntmps96
  go_wp2_with (
    go_at_call 72
    refine (sorted_gen HM.out hs hn).mono ?_
    rintro e w1 ⟨v, rfl, ho, hnil, hb1⟩
    obtain ⟨ao, cp, rfl⟩ := own_shape ho
    have H1 := hid (And.intro ho (And.intro hnil hb1))
    clear ho hnil hb1)
  go_loopw [5, 11] (fun l i wr => ∃ (k : Nat) (ys : List Nat) (v : Value), k ≤ nv.length ∧ i = .int .i64 k ∧ l = v ∧ Hid (wr.ownsRow w1.heap.size 93 2 v k ((((sk nv).take k).zip ys).flatMap (tcs cont nv)) ∧ ys.length = k ∧ (∀ (i : Nat) (s : List UInt8) (Y : Nat), (sk nv)[i]? = some s → ys[i]? = some Y → Own wr Y (cont (noOf nv s)) ∧ B ≤ Y) ∧ Below w1.heap.size w1 wr)) (fun _ i _ => nv.length - (intOf i).toNat)
  case atStart => exact ⟨0, [], .slice none 0 0, Nat.zero_le _, by go_num, rfl, hid ⟨owns_nil _ _ _ _, rfl, by simp, Below.refl _ _⟩⟩
  case round =>
    obtain ⟨k, ys, v, hk, rfl, rfl, HR⟩ := hrel
    obtain ⟨ho1, hnil, hb1⟩ := H1.out
    obtain ⟨hrow, hlen, hys, hbr⟩ := HR.out
    have hsl : (sk nv).length = nv.length := by simp [sk, List.length_mergeSort]
    by_cases hlt : k < nv.length
    · have hks : k < (sk nv).length := by omega
      obtain ⟨s, hse⟩ : ∃ s, s = (sk nv)[k] := ⟨_, rfl⟩
      have hsk : (sk nv)[k]? = some s := by simp [hks, hse]
      obtain ⟨g, cc, e⟩ := own_some ho1 (by omega)
      injection e with e1 e2 e3
      subst e1 e3
      clear e2
      have hc1 := ho1.cells (g := g) rfl k (encStr s) (by simp [hsk])
      rw [add_lit, Nat.zero_add] at hc1
      have hc2 : wr.cell? ⟨g, k, none⟩ = some (.string (bsOf s)) := (hbr.cell (World.block_lt_of_cell? _ _ hc1)).trans hc1
      -- the name's entry
      have hmem : s ∈ nv.map (fun x => x.1.data.toList) := by
        have : s ∈ sk nv := List.mem_of_getElem? hsk
        exact (List.mergeSort_perm _ _).mem_iff.1 this
      obtain ⟨x, hx, hxs⟩ := List.mem_map.1 hmem
      have hx1 : x.1 = bsOf s := by
        rw [← hxs]
        rfl
      have hlook : lk (bsOf s) nv = some x.2 := by
        rw [← hx1]
        exact lookup_mem HM.out.keys hx
      have hno : noOf nv s = iv x.2 := by simp [noOf, hlook]
      have hbw : Below w.heap.size w wr := hb1.trans (hbr.mono hb1.size)
      have hlk := (HM.out.below hbw).look Tryz.underlying47 (show Tryz.prog.underlying 9 = some KS.d from Tryz.underlying9) (zero3 wr) (bsOf s) false
      simp only [Bool.false_eq_true, if_false] at hlk
      rw [show @List.lookup _ _ instBEqOfDecidableEq (bsOf s) nv = some x.2 from hlook, Option.getD_some] at hlk
      replace hlk : (Instr.lookup 47 (.map (some b)) (.string (bsOf s)) false).run Tryz.prog wr = .ok x.2 wr := hlk
      have hcall := HD.out.1 x hx wr hbw
      rw [← hno] at hcall
      have hxi := HD.out.2 x hx
      rw [← hno] at hxi
      obtain ⟨n, hn'⟩ : ∃ n, n = noOf nv s := ⟨_, rfl⟩
      rw [← hn'] at hcall hxi
      rw [hxi] at hlk hcall
      have HC := hid hcall
      have i2 : (k : Int) < (nv.length : Int) := by omega
      have HX := hid (And.intro hsk (And.intro hn' (And.intro hbw hsl)))
      clear ho1 hnil hb1 hrow hlen hys hbr hsk hc1 hmem hx hxs hx1 hlook hno hbw hcall hxi hn' hse hks hsl
      go_wp2_with (first
        | (at_builtin
           refine wpList_append_lies _ rfl _ _ 75 rfl w1.heap.size 93 i0 _ 2 40 Tryz.underlying75 hi hz0 hz1 hz2 rfl (by omega) u5 k _ rfl (H2.out.1.alloc _) ⟨w2.heap.size, 0, none⟩ 1 1 [.string (bsOf s), .slice (some ⟨Y, 0, none⟩) (cont n).length (cont n).length] rfl rfl (World.news_of_block (cs := #[.string (bsOf s), .slice (some ⟨Y, 0, none⟩) (cont n).length (cont n).length]) (t := 93) (fr := (0, 0)) (heap_alloc_new w2 _)) (by simp [Value.oneCell']) (by omega) (by unfold maxLen; omega) (by omega) (by have a := HR.out.2.2.2.size; have c := H2.out.2.2.2.size; simp; omega) (w2.heap.size + 1) (by simp) ?_
           intro gg cq w3 hown hgrow hat hgl
           have HG := hid (And.intro hown hgrow)
           clear hown hgrow hat hgl)
        | (refine HC.out.mono ?_
           rintro e w2 ⟨Y, rfl, hY, hBY, hb2⟩
           have H2 := hid (And.intro (ownsRow_kept HR.out.1 (Kept.ofBelow hb2) (fun _ _ e => e)) (And.intro hY (And.intro hBY hb2)))
           clear hY hBY hb2))
      go_roundw
      case rel =>
        obtain ⟨hown, hgrow⟩ := HG.out
        obtain ⟨hrow2, hY, hBY, hb2⟩ := H2.out
        obtain ⟨hsk, hn', hbw, hsl⟩ := HX.out
        obtain ⟨hrow, hlen, hys, hbr⟩ := HR.out
        have K3 : Kept (fun k => u5.ownBlock = some k) w2 w3 := Kept.grown ((Kept.refl _ w2).alloc _) hgrow (fun k _ e => e)
        have hne : ∀ Z bs, Own w2 Z bs → u5.ownBlock ≠ some Z := fun Z bs hZ e => by
          obtain ⟨cs, h⟩ := owns_block hrow2 Z e
          unfold Own at hZ
          rw [h] at hZ
          cases hZ
        refine ⟨k + 1, ys ++ [Y], _, by omega, by go_num, rfl, hid ⟨?_, by simp [hlen], ?_, ?_⟩⟩
        · have e1 : ((sk nv).take (k + 1)).zip (ys ++ [Y]) = ((sk nv).take k).zip ys ++ [(s, Y)] := by
            have hks : k < (sk nv).length := by omega
            rw [List.take_succ_eq_append_getElem hks, List.zip_append (by simp; omega)]
            have : (sk nv)[k] = s := by simpa [hks] using hsk
            simp [this]
          rw [e1, List.flatMap_append]
          have e2 : [(s, Y)].flatMap (tcs cont nv) = [.string (bsOf s), .slice (some ⟨Y, 0, none⟩) (cont n).length (cont n).length] := by simp [tcs, ← hn']
          rw [e2]
          exact hown
        · intro i s' Z hs' hZ
          by_cases hi : i < ys.length
          · rw [List.getElem?_append_left hi] at hZ
            obtain ⟨q1, q2⟩ := hys i s' Z hs' hZ
            have q3 : Own w2 Z (cont (noOf nv s')) := hp_below q1 hb2 (hp_lt q1)
            exact ⟨hp_kept q3 K3 (hne Z _ q3), q2⟩
          · rw [List.getElem?_append_right (by omega)] at hZ
            have hik : i = k := by
              rcases Nat.lt_or_ge (i - ys.length) 1 with h | h
              · omega
              · rw [List.getElem?_eq_none (by simpa using h)] at hZ; cases hZ
            subst hik
            simp [hlen] at hZ
            subst hZ
            rw [hsk] at hs'
            injection hs' with hs'
            subst hs'
            rw [← hn']
            exact ⟨hp_kept hY K3 (hne _ _ hY), hBY⟩
        · have hz := H1.out.2.2.size
          have hz2 := hbr.size
          exact (hbr.trans (hb2.mono hz2)).trans (K3.below (by have := hb2.size; omega) (fun q hq e => by
            have := (hrow.lt _ e).1
            omega))
      case measure => simp [intOf]; omega
    · have hke : k = nv.length := by omega
      subst hke
      have HF := hid (And.intro hrow (And.intro hlen (And.intro hys (And.intro hbr (And.intro hb1 hsl)))))
      have i2 : ¬ (nv.length : Int) < (nv.length : Int) := by omega
      clear hrow hlen hys hbr ho1 hnil hb1 hsl
      go_wp2
      go_ret
      obtain ⟨hrow, hlen, hys, hbr, hb1, hsl⟩ := HF.out
      refine ⟨u5, rfl, ys, ?_, hlen, hys, hb1.trans (hbr.mono hb1.size)⟩
      rw [List.take_of_length_le (by omega)] at hrow
      exact ownsRow_base_a hrow hb1.size

end Go.Proofs.YtlmompdfombgeaaGreat

namespace Go.Proofs.YtlmompdfombgeaaGreat
open Go.RowKit Go.MapKept

set_option maxRecDepth 100000 in
set_option maxHeartbeats 1600000 in
theorem settle_gen (d L Nc cL cN : Nat) (lv : List (Int × Value)) (nv : List (ByteArray × Value)) (esL esN : Array MapEntry) (w : World) (room limit made : Int) (N F vn : Value) (off : Bool) (st : Int) (k1 : Value) (rd : Int) (k2 : Value)
    (hD : DiskB w d room limit (.map (some L)) made N F vn off st k1 rd k2) (hL : MG KI w L lv esL cL) (hN : MG KS w Nc nv esN cN) (hint : ∀ x ∈ nv, x.2 = .int .i64 (iv x.2)) (hnd : (nv.map (fun x => iv x.2)).Nodup) :
    Calls Tryz.prog 86 #[.pointer (some ⟨d, 0, none⟩), .map (some Nc)] w fun x w' => x = .returned (.tuple #[]) ∧ ∃ L' F' kv es c, DiskB w' d room limit (.map (some L')) made (.map (some Nc)) (.map (some F')) (.slice none 0 0) off st k1 rd k2 ∧ MG KS w' Nc nv esN cN ∧ MG KS w' F' nv esN cN ∧ MG KI w' L' kv es c ∧ kv.Perm (nv.map (lvOf lv)) ∧ w.heap.size ≤ L' ∧ w.heap.size ≤ F' ∧ L' ≠ F' ∧ Kept (fun k => k = d) w w' := by
  obtain ⟨c0, c1, c2, c3, c4, c5, c6, c7, c8, c9, c10, c11⟩ := hD.cells
  have ff := hD.free
  have hdl := hp_lt hD
  have hMl := hp_lt hN.blk
  have hdM : d ≠ Nc := hp_ne hD hN.blk (by simp)
  have hdL : d ≠ L := hp_ne hD hL.blk (by simp)
  have HN := hid hN.blk
  have hk3 : Kept (fun k => k = d) w ((((w.setCell ⟨d, 4, none⟩ (.map (some Nc))).setCell ⟨d, 5, none⟩ (.map (some w.heap.size))).setCell ⟨d, 6, none⟩ (.slice none 0 0)).alloc (.map esN cN)) :=
    ((((Kept.refl (fun k => k = d) w).setCell (p := ⟨d, 4, none⟩) (fun _ => rfl) _).setCell (p := ⟨d, 5, none⟩) (fun _ => rfl) _).setCell (p := ⟨d, 6, none⟩) (fun _ => rfl) _).alloc _
  have hD3 : DiskB ((((w.setCell ⟨d, 4, none⟩ (.map (some Nc))).setCell ⟨d, 5, none⟩ (.map (some w.heap.size))).setCell ⟨d, 6, none⟩ (.slice none 0 0)).alloc (.map esN cN)) d room limit (.map (some L)) made (.map (some Nc)) (.map (some w.heap.size)) (.slice none 0 0) off st k1 rd k2 :=
    hp_alloc (set_block (i := 6) (set_block (i := 5) (set_block (i := 4) hD _) _) _) _
  have hF3 : ((((w.setCell ⟨d, 4, none⟩ (.map (some Nc))).setCell ⟨d, 5, none⟩ (.map (some w.heap.size))).setCell ⟨d, 6, none⟩ (.slice none 0 0)).alloc (.map esN cN)).heap[w.heap.size]? = some (.map esN cN) := by
    have := hp_new (((w.setCell ⟨d, 4, none⟩ (.map (some Nc))).setCell ⟨d, 5, none⟩ (.map (some w.heap.size))).setCell ⟨d, 6, none⟩ (.slice none 0 0)) (.map esN cN)
    simpa [World.setCell] using this
  have hs3 : ((((w.setCell ⟨d, 4, none⟩ (.map (some Nc))).setCell ⟨d, 5, none⟩ (.map (some w.heap.size))).setCell ⟨d, 6, none⟩ (.slice none 0 0)).alloc (.map esN cN)).heap.size = w.heap.size + 1 := by simp [World.setCell]
  have hL3 := hL.kept hk3 (fun e => hdL e.symm)
  have hM3 := hN.kept hk3 (fun e => hdM e.symm)
  obtain ⟨W, hW⟩ : ∃ W, W = ((((w.setCell ⟨d, 4, none⟩ (.map (some Nc))).setCell ⟨d, 5, none⟩ (.map (some w.heap.size))).setCell ⟨d, 6, none⟩ (.slice none 0 0)).alloc (.map esN cN)) := ⟨_, rfl⟩
  rw [← hW] at hk3 hD3 hF3 hs3 hL3 hM3
  have HW := hid hW
  have HI := hid (And.intro hk3 (And.intro hD3 (And.intro hF3 (And.intro hs3 (And.intro hL3 hM3)))))
  have HQ := hid hN
  have hcall := reached_any d L Nc cL cN lv nv esL esN W hD3.cells.2.2.1 hL3 hM3 hint hnd
  rw [hW] at hcall
  have HCall := hid hcall
  clear hD hL hN hk3 hD3 hF3 hs3 hL3 hM3 hW hcall hint hnd
  go_enter Tryz.func86, Tryz.ntmps86
  go_wp2_with (first
    | (go_at_call 90
       refine (mapsClone_any Nc _ cN _ HN.out).mono ?_
       rintro e w1 ⟨rfl, rfl⟩)
    | (go_at_call 91
       refine HCall.out.mono ?_
       rintro e w2 ⟨rfl, hkv, hb2⟩
       rw [← HW.out] at hb2 hkv
       have hd2 := (show DiskB w2 d room limit (.map (some L)) made (.map (some Nc)) (.map (some w.heap.size)) (.slice none 0 0) off st k1 rd k2 from hp_below HI.out.2.1 hb2 (hp_lt HI.out.2.1))
       obtain ⟨-, -, y2, -⟩ := hd2.cells
       have yf := hd2.free
       have HB2 := hid (And.intro hd2 (And.intro hkv hb2))
       clear hd2 hkv hb2))
  go_end0
  obtain ⟨hk3, hD3, hF3, hs3, hL3, hM3⟩ := HI.out
  obtain ⟨hd2, ⟨kv, es, c, hM2, hperm⟩, hb2⟩ := HB2.out
  rw [hs3] at hM2
  have hz2 := hb2.size
  have hkA : Kept (fun k => k = d) w w2 := hk3.trans (Kept.ofBelow hb2) (fun _ _ e => e.elim)
  have K2 : Kept (fun k => k = d) w2 (w2.setCell ⟨d, 2, none⟩ (.map (some (w.heap.size + 1)))) := (Kept.refl (fun k => k = d) w2).setCell (p := ⟨d, 2, none⟩) (fun _ => rfl) _
  refine ⟨rfl, w.heap.size + 1, w.heap.size, kv, es, ⟨c, set_block (i := 2) hd2 _, (hM3.below hb2).kept K2 (fun e => hdM e.symm), ?_, hM2.kept K2 (by omega), hperm, by omega, by omega, by omega, hkA.trans K2 (fun _ _ e => e)⟩⟩
  have hQ := HQ.out
  exact ⟨hp_kept (hp_below hF3 hb2 (by omega)) K2 (by omega), hQ.hold, hQ.nd, hQ.kvs, hQ.keys⟩

end Go.Proofs.YtlmompdfombgeaaGreat

namespace Go.Proofs.YtlmompdfombgeaaGreat
open Go.RowKit Go.MapKept

/-- A row with one change done. -/
def doC (r : List Int × List Bool) : Chg → List Int × List Bool
  | .inl ys => (r.1 ++ ys, r.2 ++ List.replicate ys.length true)
  | .inr n => (r.1.take n, r.2.take n)

/-- Safe bytes with changes done. -/
def rowC (safe : List Int) (cs : List Chg) : List Int × List Bool := cs.foldl doC (safe, List.replicate safe.length false)

/-- The same with the greatest length so far. -/
def stepC (s : (List Int × List Bool) × Nat) (c : Chg) : (List Int × List Bool) × Nat := (doC s.1 c, max s.2 (doC s.1 c).1.length)

def peakC (safe : List Int) (cs : List Chg) : Nat := (cs.foldl stepC ((safe, List.replicate safe.length false), safe.length)).2

theorem rowC_snoc (safe : List Int) (cs : List Chg) (c : Chg) : rowC safe (cs ++ [c]) = doC (rowC safe cs) c := by simp [rowC, List.foldl_append]

theorem stepC_row : ∀ (cs : List Chg) (s : (List Int × List Bool) × Nat), (cs.foldl stepC s).1 = cs.foldl doC s.1
  | [], _ => rfl
  | c :: cs, s => by rw [List.foldl_cons, List.foldl_cons, stepC_row cs]; rfl

theorem peakC_nil (safe : List Int) : peakC safe [] = safe.length := rfl

theorem peakC_snoc (safe : List Int) (cs : List Chg) (c : Chg) : peakC safe (cs ++ [c]) = max (peakC safe cs) (rowC safe (cs ++ [c])).1.length := by
  rw [rowC_snoc]
  unfold peakC rowC
  rw [List.foldl_append, List.foldl_cons, List.foldl_nil, stepC, stepC_row]

theorem stepC_ge : ∀ (cs : List Chg) (s : (List Int × List Bool) × Nat), s.1.1.length ≤ s.2 → s.2 ≤ (cs.foldl stepC s).2 ∧ (cs.foldl stepC s).1.1.length ≤ (cs.foldl stepC s).2
  | [], s, h => ⟨Nat.le_refl _, h⟩
  | c :: cs, s, h => by
    have := stepC_ge cs (stepC s c) (by simp only [stepC]; omega)
    rw [List.foldl_cons]
    exact ⟨Nat.le_trans (by simp only [stepC]; omega) this.1, this.2⟩

theorem safe_le_peak (safe : List Int) (cs : List Chg) : safe.length ≤ peakC safe cs := (stepC_ge cs ((safe, List.replicate safe.length false), safe.length) (Nat.le_refl _)).1

theorem row_le_peak (safe : List Int) (cs : List Chg) : (rowC safe cs).1.length ≤ peakC safe cs := by
  have := (stepC_ge cs ((safe, List.replicate safe.length false), safe.length) (Nat.le_refl _)).2
  rw [stepC_row] at this
  exact this

theorem take_le_peak (safe : List Int) (cs : List Chg) (k : Nat) : (rowC safe (cs.take k)).1.length ≤ peakC safe cs := by
  have h : peakC safe (cs.take k) ≤ peakC safe cs := by
    conv => rhs; rw [← List.take_append_drop k cs]
    unfold peakC
    rw [List.foldl_append]
    refine (stepC_ge (cs.drop k) _ ?_).1
    exact (stepC_ge (cs.take k) ((safe, List.replicate safe.length false), safe.length) (Nat.le_refl _)).2
  exact Nat.le_trans (row_le_peak _ _) h

/-- What a row is: behind m old bytes stand t new ones. -/
def Shape (safe : List Int) (r : List Int × List Bool) : Prop := ∃ m t, r.2 = frs m t ∧ r.1.length = m + t ∧ m ≤ safe.length ∧ r.1.take m = safe.take m

theorem frs_take (m t n : Nat) : (frs m t).take n = frs (min n m) (min n (m + t) - min n m) := by
  unfold frs
  rw [List.take_append, List.take_replicate, List.take_replicate, List.length_replicate]
  congr 2
  omega

theorem Shape.doC {safe : List Int} {r : List Int × List Bool} (h : Shape safe r) (c : Chg) : Shape safe (doC r c) := by
  obtain ⟨m, t, h1, h2, h3, h4⟩ := h
  cases c with
  | inl ys =>
    refine ⟨m, t + ys.length, by simp only [Go.Proofs.YtlmompdfombgeaaGreat.doC]; rw [h1, frs_app], by simp only [Go.Proofs.YtlmompdfombgeaaGreat.doC, List.length_append]; omega, h3, ?_⟩
    simp only [Go.Proofs.YtlmompdfombgeaaGreat.doC]
    rw [List.take_append_of_le_length (by omega), h4]
  | inr n =>
    refine ⟨min n m, min n (m + t) - min n m, by simp only [Go.Proofs.YtlmompdfombgeaaGreat.doC]; rw [h1, frs_take], by simp only [Go.Proofs.YtlmompdfombgeaaGreat.doC, List.length_take]; omega, by omega, ?_⟩
    simp only [Go.Proofs.YtlmompdfombgeaaGreat.doC]
    rw [List.take_take, Nat.min_eq_left (by omega)]
    have := congrArg (List.take (min n m)) h4
    rw [List.take_take, List.take_take, Nat.min_eq_left (by omega)] at this
    exact this

theorem rowC_shape (safe : List Int) (cs : List Chg) : Shape safe (rowC safe cs) := by
  unfold rowC
  have : ∀ (cs : List Chg) (r : List Int × List Bool), Shape safe r → Shape safe (cs.foldl doC r) := by
    intro cs
    induction cs with
    | nil => intro r h; exact h
    | cons c cs ih => intro r h; exact ih _ (h.doC c)
  exact this cs _ ⟨safe.length, 0, by simp [frs], by simp, Nat.le_refl _, rfl⟩

theorem rowC_len (safe : List Int) (cs : List Chg) : (rowC safe cs).2.length = (rowC safe cs).1.length := by
  obtain ⟨m, t, h1, h2, _⟩ := rowC_shape safe cs
  rw [h1, frs_len, h2]

/-- A file that was made. -/
structure Fi where
  no : Int
  safe : List Int
  cs : List Chg

def Fi.row (f : Fi) : List Int × List Bool := rowC f.safe f.cs
def Fi.peak (f : Fi) : Nat := peakC f.safe f.cs

/-- A change of the names: from, to, the file. -/
abbrev Nmg := ByteArray × ByteArray × Int

/-- A disk. -/
structure Dq where
  room : Int
  limit : Int
  made : Int
  files : List Fi
  safeN : List (ByteArray × Int)
  turns : List Nmg
  off : Bool
  st : Int
  fs : List (Int × Int)
  rd : Int
  fr : List (Int × Int)

/-- Names without one. -/
def delA (k : ByteArray) (l : List (ByteArray × Int)) : List (ByteArray × Int) := l.filter fun x => !decide (x.1 = k)
/-- Names with one. -/
def setA (k : ByteArray) (v : Int) (l : List (ByteArray × Int)) : List (ByteArray × Int) := delA k l ++ [(k, v)]
/-- Names with a change done. -/
def doT (l : List (ByteArray × Int)) (x : Nmg) : List (ByteArray × Int) := if x.2.1.toList.isEmpty then delA x.1 l else setA x.2.1 x.2.2 (delA x.1 l)

/-- The names with the first k changes done. -/
def Dq.namesAt (D : Dq) (k : Nat) : List (ByteArray × Int) := (D.turns.take k).foldl doT D.safeN
/-- The names. -/
def Dq.names (D : Dq) : List (ByteArray × Int) := D.turns.foldl doT D.safeN

/-- The blocks of a file. -/
def ftOf (p : Nat) (pend : List Value) (vs vp vd vf : Value) (k : Nat) : Prop :=
  k = p ∨ vs.ownBlock = some k ∨ vp.ownBlock = some k ∨ vd.ownBlock = some k ∨ vf.ownBlock = some k ∨ ∃ sv, Value.iface 124 sv ∈ pend ∧ sv.ownBlock = some k

/-- A file in the heap, with its blocks. -/
def Fil (w : World) (ft : Nat → Prop) (p : Nat) (f : Fi) : Prop :=
  ∃ pend vs vp vd vf, FileAt w 0 p f.safe pend f.row.1 f.row.2 (f.peak : Nat) vs vp vd vf ∧ Pends w 0 vs vd pend f.cs ∧ ∀ k, ft k ↔ ftOf p pend vs vp vd vf k

theorem ChgAt.keptOf {w w' : World} {B : Nat} {vs vd v : Value} {c : Chg} {S : Nat → Prop} (h : ChgAt w B vs vd v c) (hk : Kept S w w') (hS : ∀ sv k, v = .iface 124 sv → sv.ownBlock = some k → ¬ S k) {vs' vd' : Value}
    (h1 : vs'.ownBlock = vs.ownBlock ∨ ∀ k, vs'.ownBlock = some k → w.heap.size ≤ k) (h2 : vd'.ownBlock = vd.ownBlock ∨ ∀ k, vd'.ownBlock = some k → w.heap.size ≤ k) : ChgAt w' B vs' vd' v c := by
  cases c with
  | inr n => exact h
  | inl ys =>
    obtain ⟨sv, rfl, hs, hb⟩ := h
    refine ⟨sv, rfl, hs.kept hk (fun k e => hS sv k rfl e), fun k e => ?_⟩
    obtain ⟨x, ⟨cs, a⟩, b, c⟩ := hb k e
    refine ⟨x, ⟨cs, hp_kept a hk (hS sv k rfl e)⟩, ?_, ?_⟩
    · rcases h1 with h1 | h1
      · rw [h1]; exact b
      · intro e2; have := h1 k e2; have := hp_lt a; omega
    · rcases h2 with h2 | h2
      · rw [h2]; exact c
      · intro e2; have := h2 k e2; have := hp_lt a; omega

theorem Pends.keptOf {w w' : World} {B : Nat} {vs vd : Value} {pend : List Value} {cs : List Chg} {S : Nat → Prop} (h : Pends w B vs vd pend cs) (hk : Kept S w w') (hS : ∀ sv k, Value.iface 124 sv ∈ pend → sv.ownBlock = some k → ¬ S k) {vs' vd' : Value}
    (h1 : vs'.ownBlock = vs.ownBlock ∨ ∀ k, vs'.ownBlock = some k → w.heap.size ≤ k) (h2 : vd'.ownBlock = vd.ownBlock ∨ ∀ k, vd'.ownBlock = some k → w.heap.size ≤ k) : Pends w' B vs' vd' pend cs :=
  ⟨h.1, fun i v c a b => (h.2 i v c a b).keptOf hk (fun sv k e => hS sv k (by rw [← e]; exact List.mem_of_getElem? a)) h1 h2⟩

theorem Fil.kept {w w' : World} {ft : Nat → Prop} {p : Nat} {f : Fi} {S : Nat → Prop} (h : Fil w ft p f) (hk : Kept S w w') (hS : ∀ k, ft k → ¬ S k) : Fil w' ft p f := by
  obtain ⟨pend, vs, vp, vd, vf, hf, hp, ht⟩ := h
  refine ⟨pend, vs, vp, vd, vf, hf.kept hk (hS _ ((ht _).2 (.inl rfl))) (fun k e => hS _ ((ht _).2 (.inr (.inl e)))) (fun k e => hS _ ((ht _).2 (.inr (.inr (.inl e))))) (fun k e => hS _ ((ht _).2 (.inr (.inr (.inr (.inl e)))))) (fun k e => hS _ ((ht _).2 (.inr (.inr (.inr (.inr (.inl e))))))), ?_, ht⟩
  exact hp.keptOf hk (fun sv k hm e => hS k ((ht k).2 (.inr (.inr (.inr (.inr (.inr ⟨sv, hm, e⟩))))))) (.inl rfl) (.inl rfl)

theorem Fil.below {w w' : World} {ft : Nat → Prop} {p : Nat} {f : Fi} (h : Fil w ft p f) (hk : Below w.heap.size w w') : Fil w' ft p f := h.kept (Kept.ofBelow hk) (fun _ _ e => e)

/-- The kinds of a file's blocks. -/
theorem Fil.typed {w : World} {ft : Nat → Prop} {p : Nat} {f : Fi} (h : Fil w ft p f) (k : Nat) (hk : ft k) : ∃ cs t, w.heap[k]? = some (.cells cs t (0, 0)) ∧ (t = 112 ∨ t = 5 ∨ t = 4 ∨ t = 171) := by
  obtain ⟨pend, vs, vp, vd, vf, hf, hp, ht⟩ := h
  rcases (ht k).1 hk with rfl | e | e | e | e | ⟨sv, hm, e⟩
  · exact ⟨_, _, hf.blk, .inl rfl⟩
  · obtain ⟨cs, a⟩ := owns_block hf.os k e; exact ⟨_, _, a, .inr (.inl rfl)⟩
  · obtain ⟨cs, a⟩ := owns_block hf.op k e; exact ⟨_, _, a, .inr (.inr (.inr rfl))⟩
  · obtain ⟨cs, a⟩ := owns_block hf.od k e; exact ⟨_, _, a, .inr (.inl rfl)⟩
  · obtain ⟨cs, a⟩ := owns_block hf.of k e; exact ⟨_, _, a, .inr (.inr (.inl rfl))⟩
  · obtain ⟨i, hi, hv⟩ := List.mem_iff_getElem.1 hm
    have hi2 : i < f.cs.length := by have := hp.1; omega
    have := hp.2 i _ _ (by rw [List.getElem?_eq_getElem hi, hv]) (List.getElem?_eq_getElem hi2)
    cases hc : f.cs[i] with
    | inr n => rw [hc] at this; cases this
    | inl ys =>
      rw [hc] at this
      obtain ⟨sv', e', _, hb⟩ := this
      injection e' with _ e'
      subst e'
      obtain ⟨_, ⟨cs, a⟩, _⟩ := hb k e
      exact ⟨cs, 5, a, .inr (.inl rfl)⟩

theorem Fil.lt {w : World} {ft : Nat → Prop} {p : Nat} {f : Fi} (h : Fil w ft p f) (k : Nat) (hk : ft k) : k < w.heap.size := by
  obtain ⟨cs, t, a, _⟩ := h.typed k hk
  exact hp_lt a

theorem Fil.self {w : World} {ft : Nat → Prop} {p : Nat} {f : Fi} (h : Fil w ft p f) : ft p := by
  obtain ⟨pend, vs, vp, vd, vf, hf, hp, ht⟩ := h
  exact (ht p).2 (.inl rfl)

end Go.Proofs.YtlmompdfombgeaaGreat
