import Derived.Test.YtlmompdfombgeabGreatK05
import Derived.Test.YtlmompdfombgeabGreatK06
import Derived.Test.YtlmompdfombgeabGreatK08
namespace Go.Proofs.YtlmompdfombgeabGreat
open Go.RowKit Go.MapKept

/-- A sum over entries. -/
def sumE (f : MapEntry → Int) (l : List MapEntry) : Int := (l.map f).sum

theorem sumE_cons (f : MapEntry → Int) (e : MapEntry) (l : List MapEntry) : sumE f (e :: l) = f e + sumE f l := by simp [sumE]

theorem sumE_nonneg (f : MapEntry → Int) : ∀ l : List MapEntry, (∀ e ∈ l, 0 ≤ f e) → 0 ≤ sumE f l
  | [], _ => by simp [sumE]
  | e :: l, h => by
    rw [sumE_cons]
    have h1 := h e (by simp)
    have h2 := sumE_nonneg f l (fun x hx => h x (by simp [hx]))
    omega

theorem sumE_filter_none (f : MapEntry → Int) (b : Nat) : ∀ l : List MapEntry, (∀ e ∈ l, e.born ≠ b) → l.filter (fun x => !(x.born == b)) = l
  | [], _ => rfl
  | x :: l, h => by
    have hx := h x (by simp)
    rw [List.filter_cons, if_pos (by simpa using hx), sumE_filter_none f b l (fun e he => h e (by simp [he]))]

theorem sumE_without (f : MapEntry → Int) (e : MapEntry) : ∀ l : List MapEntry, (l.map MapEntry.born).Nodup → e ∈ l → sumE f (l.filter (fun x => !(x.born == e.born))) + f e = sumE f l
  | [], _, h => by simp at h
  | x :: l, hn, h => by
    rw [List.map_cons, List.nodup_cons] at hn
    rw [sumE_cons]
    rcases List.mem_cons.1 h with rfl | h
    · have hne : ∀ y ∈ l, y.born ≠ e.born := fun y hy hb => hn.1 (List.mem_map.2 ⟨y, hy, hb⟩)
      rw [List.filter_cons, if_neg (by simp), sumE_filter_none f e.born l hne]
      omega
    · have hxe : x.born ≠ e.born := fun hb => hn.1 (List.mem_map.2 ⟨e, h, hb.symm⟩)
      rw [List.filter_cons, if_pos (by simpa using hxe), sumE_cons]
      have := sumE_without f e l hn.2 h
      omega

theorem left_push (es : Array MapEntry) (seen : Array Nat) (b : Nat) : (leftOf es (seen.push b)).toList = (leftOf es seen).toList.filter (fun x => !(x.born == b)) := by
  simp only [leftOf, Array.toList_filter, List.filter_filter]
  congr 1
  funext x
  by_cases h : x.born = b <;> simp [h]

theorem left_zero (es : Array MapEntry) : (leftOf es #[]).toList = es.toList := by
  simp [leftOf]

/-- Whatever the tape says. -/
theorem choose_dn (n : Nat) (w : World) (h : 0 < n) : ∃ j m, j < n ∧ (choose (Question.mapNext n)).run Tryz.prog w = .ok j (w.drewN m) := by
  by_cases hf : n ≤ 1
  · exact ⟨0, 0, h, by simp [choose, Sem.run, Question.forced, hf]; rfl⟩
  · exact ⟨_, 1, Nat.mod_lt _ h, by
      simp only [choose, Sem.run, Question.forced, decide_eq_true_eq, hf, if_false, Question.cut]
      rfl⟩

/-- The next entry of a map that is as it was when the loop began. -/
theorem next_any (w : World) (ty : TypeId) (bm c : Nat) (seen : Array Nat) (es : Array MapEntry) (hb : w.heap[bm]? = some (.map es c)) (hold : ∀ x ∈ es.toList, x.born < c) :
    ((leftOf es seen).size = 0 ∧ (Instr.next (.pointer (some ⟨w.heap.size, 0, none⟩)) false ty).run Tryz.prog (w.alloc (.mapIter (some bm) c seen c)) = .ok (.tuple #[.bool false]) (w.alloc (.mapIter (some bm) c seen c))) ∨
    ∃ e ∈ (leftOf es seen).toList, ∃ m, (Instr.next (.pointer (some ⟨w.heap.size, 0, none⟩)) false ty).run Tryz.prog (w.alloc (.mapIter (some bm) c seen c)) = .ok (.tuple #[.bool true, e.key, e.val]) ((w.drewN m).alloc (.mapIter (some bm) c (seen.push e.born) c)) := by
  have hb' := hp_alloc hb (.mapIter (some bm) c seen c)
  have hm : ∀ x ∈ (leftOf es seen).toList, x.born < c := fun x hx => hold x (by simp [leftOf] at hx ⊢; exact hx.1)
  have e1 : (leftOf es seen).filter (fun x => decide (x.born < c)) = leftOf es seen := Array.filter_eq_self.2 (fun x hx => by simpa using hm x (by simpa using hx))
  have e2 : (leftOf es seen).filter (fun x => decide (x.born ≥ c)) = #[] := by
    rw [Array.filter_eq_empty_iff]
    intro x hx
    have := hm x (by simpa using hx)
    simp
    omega
  simp only [Instr.next, getObj, Sem.run_bind, Sem.run, hp_new, hb', Result.andThen, next_test_false seen es c c hold (Nat.le_refl _), Bool.false_eq_true, if_false]
  unfold leftOf at e1 e2 ⊢
  generalize Array.filter (fun e => !seen.contains e.born) es = L at e1 e2 ⊢
  simp only [e1, e2, Array.append_empty]
  by_cases h0 : L.size = 0
  · left
    obtain rfl : L = #[] := Array.eq_empty_of_size_eq_zero h0
    exact ⟨rfl, by simp [choose, Sem.run, Question.forced]⟩
  · right
    obtain ⟨j, m, hj, hrun⟩ := choose_dn L.size (w.alloc (.mapIter (some bm) c seen c)) (by omega)
    have hne : L.isEmpty = false := by simp [Array.isEmpty, h0]
    refine ⟨L[j], by simp, m, ?_⟩
    have hs := fun o' => set_last (w.drewN m) (some bm) c seen c o'
    simp only [hne, Bool.false_eq_true, if_false, Array.empty_append, Array.size_map, hrun, Array.getElem?_map, Array.getElem?_eq_getElem hj, Option.map_some, Sem.run_bind, Result.andThen]
    have hs' : (setObj w.heap.size (.mapIter (some bm) c (seen.push L[j].born) c)).run Tryz.prog ((w.alloc (.mapIter (some bm) c seen c)).drewN m) = .ok () ((w.drewN m).alloc (.mapIter (some bm) c (seen.push L[j].born) c)) := hs _
    simp only [hs']
    rfl

/-- What an iterator has seen. -/
def seenOf (w : World) (b : Nat) : Array Nat := match w.heap[b]? with | some (.mapIter _ _ s _) => s | _ => #[]

/-- The files of a map: each entry's value is a file whose peak is pk. -/
def Peaks (w : World) (es : Array MapEntry) (pk : MapEntry → Int) : Prop := ∀ e ∈ es.toList, ∃ p, e.val = .pointer (some ⟨p, 0, none⟩) ∧ w.cell? ⟨p, 4, none⟩ = some (.int .i64 (pk e)) ∧ 0 ≤ pk e

set_option maxRecDepth 100000 in
set_option maxHeartbeats 1600000 in
theorem held_any (L c : Nat) (es : Array MapEntry) (pk : MapEntry → Int) (w : World) (hL : w.heap[L]? = some (.map es c)) (hold : ∀ x ∈ es.toList, x.born < c) (hnd : (es.toList.map MapEntry.born).Nodup) (hp : Peaks w es pk) (hs : sumE pk es.toList ≤ 1000000000) (_hn : es.size ≤ 1000000) :
    Calls Tryz.prog 57 #[.map (some L)] w fun x w' => x = .returned (.tuple #[.int .i64 (sumE pk es.toList), .int .i64 es.size]) ∧ Below w.heap.size w w' := by
  have hr := run_range_map (P := Tryz.prog) w 82 3 97 L _ c Tryz.underlying82 hL
  have HL := hid (And.intro hL (And.intro hold (And.intro hnd hp)))
  clear hL hold hnd hp
  go_enter Tryz.func57, Tryz.ntmps57
  go_wp2
  go_loopw [2] (fun b wr => ∃ (seen : Array Nat) (m : Nat) (t : Int), wr = (w.drewN m).alloc (.mapIter (some L) c seen c) ∧ b = .int .i64 t ∧ 0 ≤ t ∧ t ≤ 1000000000 ∧ Hid (t + sumE pk (leftOf es seen).toList = sumE pk es.toList)) (fun _ wr => (leftOf es (seenOf wr w.heap.size)).size)
  case atStart => exact ⟨#[], 0, 0, rfl, by go_num, by omega, by omega, hid (by rw [left_zero]; omega)⟩
  case round =>
    obtain ⟨seen, m, t, rfl, rfl, ht0, ht1, HT⟩ := hrel
    obtain ⟨hL, hold, hnd, hp⟩ := HL.out
    rcases next_any (w.drewN m) 0 L c seen es hL hold with ⟨hz, hx⟩ | ⟨e, he, q, hx⟩
    · replace hx : (Instr.next (.pointer (some ⟨w.heap.size, 0, none⟩)) false 0).run Tryz.prog ((w.drewN m).alloc (.mapIter (some L) c seen c)) = .ok (.tuple #[.bool false]) ((w.drewN m).alloc (.mapIter (some L) c seen c)) := hx
      have hl0 : (leftOf es seen).toList = [] := by
        have : leftOf es seen = #[] := Array.eq_empty_of_size_eq_zero hz
        simp [this]
      have hte : t = sumE pk es.toList := by
        have := HT.out
        rw [hl0] at this
        simpa [sumE] using this
      have hlen := fun ty => len_map (w := (w.drewN m).alloc (.mapIter (some L) c seen c)) Tryz.underlying82 (hp_alloc hL _) ty
      have HTE := hid hte
      clear hL hold hnd hp hz hl0 hte
      go_wp2
      go_ret2
      exact ⟨by rw [HTE.out]; rfl, (below_drewN (Below.refl _ w) m).alloc (Nat.le_refl _) _⟩
    · replace hx : (Instr.next (.pointer (some ⟨w.heap.size, 0, none⟩)) false 0).run Tryz.prog ((w.drewN m).alloc (.mapIter (some L) c seen c)) = .ok (.tuple #[.bool true, e.key, e.val]) ((w.drewN (m + q)).alloc (.mapIter (some L) c (seen.push e.born) c)) := by
        rw [World.drewN_drewN] at hx
        exact hx
      have hes : e ∈ es.toList := by simp [leftOf] at he ⊢; exact he.1
      obtain ⟨p, hv, hpc, hp0⟩ := hp e hes
      have hen := run_entry_map (P := Tryz.prog) (w.drewN (m + q)) L c seen es c e hL hes hnd
      replace hen : (Instr.entry (.pointer (some ⟨w.heap.size, 0, none⟩))).run Tryz.prog ((w.drewN (m + q)).alloc (.mapIter (some L) c (seen.push e.born) c)) = .ok (.tuple #[e.key, e.val]) ((w.drewN (m + q)).alloc (.mapIter (some L) c (seen.push e.born) c)) := hen
      rw [hv] at hx hen
      have hpl := World.block_lt_of_cell? _ _ hpc
      have hpc2 : ((w.drewN (m + q)).alloc (.mapIter (some L) c (seen.push e.born) c)).cell? ⟨p, 4, none⟩ = some (.int .i64 (pk e)) := (World.cell?_alloc_past (w := w.drewN (m + q)) _ _ _ (show p < (w.drewN (m + q)).heap.size from hpl)).trans hpc
      have hnd2 : ((leftOf es seen).toList.map MapEntry.born).Nodup := by
        simp only [leftOf, Array.toList_filter]
        exact (List.Sublist.map _ (List.filter_sublist)).nodup hnd
      have hsum := sumE_without pk e _ hnd2 he
      rw [← left_push] at hsum
      have hnn : 0 ≤ sumE pk (leftOf es (seen.push e.born)).toList := sumE_nonneg pk _ (fun x hx => by
        have : x ∈ es.toList := by simp [leftOf] at hx ⊢; exact hx.1
        obtain ⟨_, _, _, h⟩ := hp x this
        exact h)
      have hT2 : (t + pk e) + sumE pk (leftOf es (seen.push e.born)).toList = sumE pk es.toList := by have := HT.out; omega
      have hlt : (leftOf es (seen.push e.born)).size < (leftOf es seen).size := by
        have e1 : (leftOf es (seen.push e.born)).size = (leftOf es (seen.push e.born)).toList.length := by simp
        have e2 : (leftOf es seen).size = (leftOf es seen).toList.length := by simp
        rw [e1, e2, left_push]
        exact List.length_filter_lt_length_iff_exists.2 ⟨e, he, by simp⟩
      have hub : t + pk e ≤ 1000000000 := by omega
      have HF := hid (And.intro hT2 hlt)
      obtain ⟨kk, hkk⟩ : ∃ kk, kk = pk e := ⟨_, rfl⟩
      rw [← hkk] at hpc2 hub hp0
      have HKK := hid hkk
      clear hL hold hnd hp hnd2 hsum hnn hT2 hlt hes he hpc hv hkk
      go_wp2
      go_roundw
      case rel => exact ⟨seen.push e.born, m + q, t + kk, rfl, by go_num, by omega, hub, hid (by rw [HKK.out]; exact HF.out.1)⟩
      case measure =>
        have e1 : seenOf ((w.drewN (m + q)).alloc (.mapIter (some L) c (seen.push e.born) c)) w.heap.size = seen.push e.born := by
          have := hp_new (w.drewN (m + q)) (.mapIter (some L) c (seen.push e.born) c)
          unfold seenOf
          rw [show w.heap.size = (w.drewN (m + q)).heap.size from rfl, this]
        have e2 : seenOf ((w.drewN m).alloc (.mapIter (some L) c seen c)) w.heap.size = seen := by
          have := hp_new (w.drewN m) (.mapIter (some L) c seen c)
          unfold seenOf
          rw [show w.heap.size = (w.drewN m).heap.size from rfl, this]
        rw [e1, e2]
        exact HF.out.2

end Go.Proofs.YtlmompdfombgeabGreat

namespace Go.Proofs.YtlmompdfombgeabGreat
open Go.RowKit Go.MapKept

/-- A kind of keys: how one is written, and that two are told apart. -/
structure Ky (κ : Type) [DecidableEq κ] where
  d : TypeDesc
  enc : κ → Value
  same : ∀ a b, Instr.sameNow d (enc a) (enc b) = some (decide (a = b))
  key : ∀ a, IsKey d (enc a)

/-- A map in block b: its keys and values in the order of the entries. -/
structure MG {κ : Type} [DecidableEq κ] (K : Ky κ) (w : World) (b : Nat) (kv : List (κ × Value)) (es : Array MapEntry) (c : Nat) : Prop where
  blk : w.heap[b]? = some (.map es c)
  hold : ∀ x ∈ es.toList, x.born < c
  nd : (es.toList.map MapEntry.born).Nodup
  kvs : es.toList.map (fun e => (e.key, e.val)) = kv.map (fun x => (K.enc x.1, x.2))
  keys : (kv.map Prod.fst).Nodup

section
variable {κ : Type} [DecidableEq κ] (K : Ky κ)

/-- What a look-up finds. -/
theorem find_kv (k : κ) : ∀ (es : List MapEntry) (kv : List (κ × Value)) (i : Nat), es.map (fun e => (e.key, e.val)) = kv.map (fun x => (K.enc x.1, x.2)) →
    (kv.lookup k = none ∧ Instr.findNow K.d (K.enc k) es i = some none) ∨ ∃ v j, kv.lookup k = some v ∧ kv[j]? = some (k, v) ∧ Instr.findNow K.d (K.enc k) es i = some (some (i + j, v))
  | [], [], i, _ => .inl ⟨rfl, rfl⟩
  | e :: es, [], i, h => by simp at h
  | [], x :: kv, i, h => by simp at h
  | e :: es, x :: kv, i, h => by
    simp only [List.map_cons, List.cons.injEq, Prod.mk.injEq] at h
    obtain ⟨⟨hk, hv⟩, ht⟩ := h
    by_cases hx : k = x.1
    · right
      refine ⟨x.2, 0, by rw [List.lookup_cons, hx]; simp, by simp [hx], ?_⟩
      unfold Instr.findNow
      rw [hk, K.same, hx]
      simp [hv]
    · rcases find_kv k es kv (i + 1) ht with ⟨h1, h2⟩ | ⟨v, j, h1, h2, h3⟩
      · left
        refine ⟨by rw [List.lookup_cons, show (k == x.1) = false by simpa using hx]; exact h1, ?_⟩
        unfold Instr.findNow
        rw [hk, K.same]
        simp [hx, h2]
      · right
        refine ⟨v, j + 1, by rw [List.lookup_cons, show (k == x.1) = false by simpa using hx]; exact h1, by simpa using h2, ?_⟩
        unfold Instr.findNow
        rw [hk, K.same]
        simp [hx, h3]
        omega

variable {K} {w w' : World} {b c : Nat} {kv : List (κ × Value)} {es : Array MapEntry}

theorem MG.kept {S : Nat → Prop} (h : MG K w b kv es c) (hk : Kept S w w') (hn : ¬ S b) : MG K w' b kv es c := ⟨hp_kept h.blk hk hn, h.hold, h.nd, h.kvs, h.keys⟩
theorem MG.below (h : MG K w b kv es c) (hk : Below w.heap.size w w') : MG K w' b kv es c := h.kept (Kept.ofBelow hk) (fun e => e)

theorem MG.size (h : MG K w b kv es c) : es.size = kv.length := by
  have := congrArg List.length h.kvs
  simpa using this

theorem MG.look (h : MG K w b kv es c) {t kt e : TypeId} (ht : Tryz.prog.underlying t = some (.map kt e)) (hk : Tryz.prog.underlying kt = some K.d) {z : Value} (hz : (zeroValue e).run Tryz.prog w = .ok z w) (k : κ) (ok : Bool) :
    (Instr.lookup t (.map (some b)) (K.enc k) ok).run Tryz.prog w = .ok (if ok then .tuple #[(kv.lookup k).getD z, .bool (kv.lookup k).isSome] else (kv.lookup k).getD z) w := by
  rcases find_kv K k es.toList kv 0 h.kvs with ⟨h1, h2⟩ | ⟨v, j, h1, _, h3⟩
  · rw [h1]
    exact look_none ht hk h.blk (K.key k) hz h2 ok
  · rw [h1]
    exact look_found ht hk h.blk (K.key k) h3 ok

theorem MG.len (h : MG K w b kv es c) {t kt e : TypeId} (ht : Tryz.prog.underlying t = some (.map kt e)) (ty : TypeId) : (Builtin.len_ #[t] ty #[.map (some b)]).run Tryz.prog w = .ok (.int .i64 kv.length) w := by
  rw [← h.size]
  exact len_map ht h.blk ty

theorem MG.noKey (h : MG K w b kv es c) (k : κ) (hn : kv.lookup k = none) : Instr.findNow K.d (K.enc k) es.toList 0 = some none := by
  rcases find_kv K k es.toList kv 0 h.kvs with ⟨_, h2⟩ | ⟨v, j, h1, _, _⟩
  · exact h2
  · rw [hn] at h1; cases h1

theorem lookup_none_mem {k : κ} : ∀ {kv : List (κ × Value)}, kv.lookup k = Option.none → k ∉ kv.map Prod.fst
  | [], _ => by simp
  | x :: kv, h => by
    rw [List.lookup_cons] at h
    by_cases hx : k = x.1
    · simp [hx] at h
    · rw [show (k == x.1) = false by simpa using hx] at h
      have := lookup_none_mem (kv := kv) h
      simp [hx] at this ⊢
      exact this

/-- A new key. -/
theorem MG.push (h : MG K w b kv es c) (k : κ) (v : Value) (hn : kv.lookup k = none) (hb : w'.heap[b]? = some (.map (es.push { key := K.enc k, val := v, born := c }) (c + 1))) : MG K w' b (kv ++ [(k, v)]) (es.push { key := K.enc k, val := v, born := c }) (c + 1) := by
  refine ⟨hb, ?_, ?_, ?_, ?_⟩
  · intro x hx
    simp at hx
    rcases hx with hx | rfl
    · have := h.hold x (by simpa using hx); omega
    · exact Nat.lt_succ_self _
  · rw [Array.toList_push, List.map_append, List.nodup_append]
    refine ⟨h.nd, by simp, ?_⟩
    intro a ha a' ha' e
    simp at ha'
    subst ha'
    obtain ⟨x, hx, hxa⟩ := List.mem_map.1 ha
    have := h.hold x hx
    omega
  · rw [Array.toList_push, List.map_append, h.kvs]
    simp
  · rw [List.map_append, List.nodup_append]
    refine ⟨h.keys, by simp, ?_⟩
    intro a ha a' ha' e
    simp at ha'
    subst ha' e
    exact lookup_none_mem hn ha

end

theorem same_dec {κ : Type} [DecidableEq κ] (d : TypeDesc) (enc : κ → Value) (hk : ∀ a, IsKey d (enc a)) (hi : ∀ a b, enc a = enc b → a = b) (a b : κ) : Instr.sameNow d (enc a) (enc b) = some (decide (a = b)) := by
  obtain ⟨r, h1, h2⟩ := sameNow_of_keys (hk a) (hk b)
  rw [h1]
  congr 1
  by_cases e : a = b
  · subst e
    simpa using h2.2 rfl
  · have : r ≠ true := fun h => e (hi a b (h2.1 h))
    simp [e]
    simpa using this

/-- Keys that are numbers. -/
def KI : Ky Int := ⟨.int .i64, .int .i64, same_dec _ _ key_int (fun a b h => by injection h), key_int⟩

/-- Keys that are texts. -/
def KS : Ky ByteArray := ⟨.string, .string, same_dec _ _ key_str (fun a b h => by injection h), key_str⟩

end Go.Proofs.YtlmompdfombgeabGreat

namespace Go.Proofs.YtlmompdfombgeabGreat
open Go.RowKit Go.MapKept

theorem puts_two (w : World) (o o' i : Obj) : puts ((w.alloc o).alloc i) w.heap.size o' = (w.alloc o').alloc i := by
  have h : ((w.heap.push o).push i).setIfInBounds w.heap.size o' = (w.heap.push o').push i := by
    apply Array.toList_inj.1
    simp
  show ({ (w.alloc o).alloc i with heap := ((w.heap.push o).push i).setIfInBounds w.heap.size o' } : World) = _
  rw [h]
  rfl

theorem Kept.drewQ {S : Nat → Prop} {a w : World} (h : Kept S a w) (n : Nat) : Kept S a (w.drewN n) := ⟨h.os, h.tape, h.output, h.size, h.block⟩

theorem alloc_drewN (w : World) (o : Obj) (m q : Nat) : ((w.drewN m).alloc o).drewN q = (w.drewN (m + q)).alloc o := by
  show ((w.drewN m).drewN q).alloc o = _
  rw [World.drewN_drewN]

theorem perm_without (e : MapEntry) : ∀ l : List MapEntry, (l.map MapEntry.born).Nodup → e ∈ l → l.Perm (e :: l.filter (fun x => !(x.born == e.born)))
  | [], _, h => by simp at h
  | x :: l, hn, h => by
    rw [List.map_cons, List.nodup_cons] at hn
    rcases List.mem_cons.1 h with rfl | h
    · have hne : ∀ y ∈ l, y.born ≠ e.born := fun y hy hb => hn.1 (List.mem_map.2 ⟨y, hy, hb⟩)
      rw [List.filter_cons, if_neg (by simp), sumE_filter_none (fun _ => 0) e.born l hne]
    · have hxe : x.born ≠ e.born := fun hb => hn.1 (List.mem_map.2 ⟨e, h, hb.symm⟩)
      rw [List.filter_cons, if_pos (by simpa using hxe)]
      exact ((perm_without e l hn.2 h).cons x).trans (List.Perm.swap e x _)

theorem lookup_none_of {κ : Type} [DecidableEq κ] {k : κ} : ∀ {kv : List (κ × Value)}, k ∉ kv.map Prod.fst → kv.lookup k = none
  | [], _ => rfl
  | x :: kv, h => by
    simp at h
    rw [List.lookup_cons, show (k == x.1) = false by simpa using fun e => h.1 (by rw [e])]
    exact lookup_none_of (by simpa using h.2)

/-- The number that a value is. -/
def iv : Value → Int | .int _ n => n | _ => 0

/-- What the living files say of a name's number. -/
def lvOf (lv : List (Int × Value)) (x : ByteArray × Value) : Int × Value := (iv x.2, (lv.lookup (iv x.2)).getD (.pointer none))

/-- The same, of an entry. -/
def lvE (lv : List (Int × Value)) (e : MapEntry) : Int × Value := (iv e.val, (lv.lookup (iv e.val)).getD (.pointer none))

theorem lvE_map {w : World} {N c : Nat} {nv : List (ByteArray × Value)} {es : Array MapEntry} (h : MG KS w N nv es c) (lv : List (Int × Value)) : es.toList.map (lvE lv) = nv.map (lvOf lv) := by
  have e1 : es.toList.map (lvE lv) = (es.toList.map (fun e => (e.key, e.val))).map (fun x => (iv x.2, (lv.lookup (iv x.2)).getD (.pointer none))) := by simp [lvE, Function.comp_def]
  rw [e1, h.kvs]
  simp [lvOf, Function.comp_def]

theorem zero100 (w : World) : (zeroValue 97).run Tryz.prog w = .ok (.pointer none) w := by kernel_rfl

set_option maxRecDepth 100000 in
set_option maxHeartbeats 1600000 in
theorem reached_any (d L N cL cN : Nat) (lv : List (Int × Value)) (nv : List (ByteArray × Value)) (esL esN : Array MapEntry) (w : World) (c2 : w.cell? ⟨d, 2, none⟩ = some (.map (some L))) (hL : MG KI w L lv esL cL) (hN : MG KS w N nv esN cN) (hint : ∀ x ∈ nv, x.2 = .int .i64 (iv x.2)) (hnd : (nv.map (fun x => iv x.2)).Nodup) :
    Calls Tryz.prog 68 #[.pointer (some ⟨d, 0, none⟩), .map (some N)] w fun x w' => x = .returned (.map (some w.heap.size)) ∧ (∃ kv es c, MG KI w' w.heap.size kv es c ∧ kv.Perm (nv.map (lvOf lv))) ∧ Below w.heap.size w w' := by
  have hmm := @run_makeMap Tryz.prog
  have hr := run_range_map (P := Tryz.prog) (w.alloc (.map #[] 0)) 83 9 3 N _ cN Tryz.underlying83 (hp_alloc hN.blk _)
  have hdl := World.block_lt_of_cell? _ _ c2
  have es0 : (w.alloc (.map #[] 0)).heap.size = w.heap.size + 1 := by simp
  rw [es0] at hr
  clear es0
  have HX := hid (And.intro hL (And.intro hN (And.intro hint hnd)))
  clear hL hN hint hnd
  go_enter Tryz.func68, Tryz.ntmps68
  go_wp2
  go_loopw [7] (fun _ wr => ∃ (seen : Array Nat) (m : Nat) (kv : List (Int × Value)) (es : Array MapEntry) (c : Nat), wr = ((w.drewN m).alloc (.map es c)).alloc (.mapIter (some N) cN seen cN) ∧ Hid (MG KI ((w.drewN m).alloc (.map es c)) w.heap.size kv es c ∧ (kv ++ (leftOf esN seen).toList.map (lvE lv)).Perm (esN.toList.map (lvE lv)))) (fun _ wr => (leftOf esN (seenOf wr (w.heap.size + 1))).size)
  case atStart => exact ⟨#[], 0, [], #[], 0, rfl, hid ⟨⟨hp_new _ _, by simp, by simp, by simp, by simp⟩, by rw [left_zero]; simp⟩⟩
  case round =>
    obtain ⟨seen, m, kv, es, c, rfl, HR⟩ := hrel
    obtain ⟨hL, hN, hint, hnd⟩ := HX.out
    obtain ⟨hM, hperm⟩ := HR.out
    have hNb : ((w.drewN m).alloc (.map es c)).heap[N]? = some (.map esN cN) := hp_alloc (show (w.drewN m).heap[N]? = _ from hN.blk) _
    rcases next_any ((w.drewN m).alloc (.map es c)) 0 N cN seen esN hNb hN.hold with ⟨hz, hx⟩ | ⟨e, he, q, hx⟩
    · have es1 : ((w.drewN m).alloc (.map es c)).heap.size = w.heap.size + 1 := by simp
      rw [es1] at hx
      have hl0 : (leftOf esN seen).toList = [] := by
        have : leftOf esN seen = #[] := Array.eq_empty_of_size_eq_zero hz
        simp [this]
      have hfin : kv.Perm (nv.map (lvOf lv)) := by
        rw [hl0] at hperm
        simp only [List.map_nil, List.append_nil] at hperm
        rw [lvE_map hN lv] at hperm
        exact hperm
      have HF := hid (And.intro hM hfin)
      clear hL hN hint hnd hM hperm hNb hz hl0 hfin es1
      go_wp2
      go_ret
      obtain ⟨hM, hfin⟩ := HF.out
      exact ⟨rfl, ⟨kv, es, c, hM.below ((Below.refl _ _).alloc (Nat.le_refl _) _), hfin⟩, ((below_drewN (Below.refl _ w) m).alloc (Nat.le_refl _) _).alloc (by simp) _⟩
    · have es1 : ((w.drewN m).alloc (.map es c)).heap.size = w.heap.size + 1 := by simp
      rw [es1, alloc_drewN] at hx
      have hes : e ∈ esN.toList := by simp [leftOf] at he ⊢; exact he.1
      have hmk : (e.key, e.val) ∈ nv.map (fun x => (KS.enc x.1, x.2)) := by
        rw [← hN.kvs]
        exact List.mem_map.2 ⟨e, hes, rfl⟩
      obtain ⟨x, hxm, hxe⟩ := List.mem_map.1 hmk
      injection hxe with hxk hxv
      have hev : e.val = .int .i64 (iv e.val) := by rw [← hxv]; exact hint x hxm
      have hen := run_entry_map (P := Tryz.prog) ((w.drewN (m + q)).alloc (.map es c)) N cN seen esN cN e (hp_alloc (show (w.drewN (m + q)).heap[N]? = _ from hN.blk) _) hes hN.nd
      have es2 : ((w.drewN (m + q)).alloc (.map es c)).heap.size = w.heap.size + 1 := by simp
      rw [es2] at hen
      obtain ⟨n, hn⟩ : ∃ n, n = iv e.val := ⟨_, rfl⟩
      rw [← hn] at hev
      rw [hev] at hx hen
      have hlk := (hL.kept (w' := ((w.drewN (m + q)).alloc (.map es c)).alloc (.mapIter (some N) cN (seen.push e.born) cN)) (S := fun _ => False) ((((Kept.refl (fun _ => False) w).drewQ (m + q)).alloc _).alloc _) (fun e => e)).look Tryz.underlying82 (show Tryz.prog.underlying 3 = some KI.d from Tryz.underlying3) (zero100 _) n false
      simp only [Bool.false_eq_true, if_false] at hlk
      replace hlk : (Instr.lookup 82 (.map (some L)) (.int .i64 n) false).run Tryz.prog (((w.drewN (m + q)).alloc (.map es c)).alloc (.mapIter (some N) cN (seen.push e.born) cN)) = .ok ((lv.lookup n).getD (.pointer none)) (((w.drewN (m + q)).alloc (.map es c)).alloc (.mapIter (some N) cN (seen.push e.born) cN)) := hlk
      -- the key is new
      have hpe : (leftOf esN seen).toList.Perm (e :: (leftOf esN (seen.push e.born)).toList) := by
        rw [left_push]
        exact perm_without e _ (by
          simp only [leftOf, Array.toList_filter]
          exact (List.Sublist.map _ (List.filter_sublist)).nodup hN.nd) he
      have hperm2 : (kv ++ [lvE lv e] ++ (leftOf esN (seen.push e.born)).toList.map (lvE lv)).Perm (esN.toList.map (lvE lv)) := by
        refine List.Perm.trans ?_ hperm
        rw [List.append_assoc]
        exact List.Perm.append_left kv (by simpa using (hpe.map (lvE lv)).symm)
      have hnk : kv.lookup n = none := by
        have hnd2 : ((esN.toList.map (lvE lv)).map Prod.fst).Nodup := by
          rw [lvE_map hN lv]
          simpa [lvOf, Function.comp_def] using hnd
        have h3 := (hperm2.map Prod.fst).nodup_iff.2 hnd2
        rw [List.map_append, List.map_append, List.nodup_append] at h3
        have h4 := h3.1
        rw [List.nodup_append] at h4
        apply lookup_none_of
        intro hm
        exact h4.2.2 n hm n (by simp [lvE, hn]) rfl
      have hM' : MG KI (((w.drewN (m + q)).alloc (.map es c)).alloc (.mapIter (some N) cN (seen.push e.born) cN)) w.heap.size kv es c := ⟨hp_alloc (hp_new (w.drewN (m + q)) _) _, hM.hold, hM.nd, hM.kvs, hM.keys⟩
      have hu := upd_new Tryz.underlying82 Tryz.underlying3 hM'.blk (key_int n) ((lv.lookup n).getD (.pointer none)) (hM'.noKey n hnk)
      rw [show w.heap.size = (w.drewN (m + q)).heap.size from rfl, puts_two] at hu
      replace hu : (Instr.mapUpdate 82 (.map (some w.heap.size)) (.int .i64 n) ((lv.lookup n).getD (.pointer none))).run Tryz.prog (((w.drewN (m + q)).alloc (.map es c)).alloc (.mapIter (some N) cN (seen.push e.born) cN)) = .ok () (((w.drewN (m + q)).alloc (.map (es.push { key := .int .i64 n, val := (lv.lookup n).getD (.pointer none), born := c }) (c + 1))).alloc (.mapIter (some N) cN (seen.push e.born) cN)) := hu
      have hM2 : MG KI ((w.drewN (m + q)).alloc (.map (es.push { key := .int .i64 n, val := (lv.lookup n).getD (.pointer none), born := c }) (c + 1))) w.heap.size (kv ++ [(n, (lv.lookup n).getD (.pointer none))]) (es.push { key := .int .i64 n, val := (lv.lookup n).getD (.pointer none), born := c }) (c + 1) := hM.push n _ hnk (hp_new (w.drewN (m + q)) _)
      have hle : lvE lv e = (n, (lv.lookup n).getD (.pointer none)) := by simp [lvE, hn]
      rw [hle] at hperm2
      have hlt : (leftOf esN (seen.push e.born)).size < (leftOf esN seen).size := by
        have e1 : (leftOf esN (seen.push e.born)).size = (leftOf esN (seen.push e.born)).toList.length := by simp
        have e2 : (leftOf esN seen).size = (leftOf esN seen).toList.length := by simp
        rw [e1, e2, hpe.length_eq]
        simp
      obtain ⟨V, hV⟩ : ∃ V, V = (lv.lookup n).getD (.pointer none) := ⟨_, rfl⟩
      rw [← hV] at hlk hu hM2 hperm2
      have HF := hid (And.intro hM2 (And.intro hperm2 hlt))
      have c2' : (((w.drewN (m + q)).alloc (.map es c)).alloc (.mapIter (some N) cN (seen.push e.born) cN)).cell? ⟨d, 2, none⟩ = some (.map (some L)) := (((((Kept.refl (fun _ => False) w).drewQ (m + q)).alloc _).alloc _)).cell c2 (fun e => e)
      clear hL hN hint hnd hM hperm hNb es1 es2 hes hmk hxm hxk hxv hev hn hpe hperm2 hnk hM' hM2 hle hlt hV he
      go_wp2
      go_roundw
      case rel => exact ⟨seen.push e.born, m + q, _, _, _, rfl, hid ⟨HF.out.1, HF.out.2.1⟩⟩
      case measure =>
        have e1 : ∀ (k : Nat) (o : Obj) (s : Array Nat), seenOf (((w.drewN k).alloc o).alloc (.mapIter (some N) cN s cN)) (w.heap.size + 1) = s := by
          intro k o s
          have := hp_new ((w.drewN k).alloc o) (.mapIter (some N) cN s cN)
          have e2 : ((w.drewN k).alloc o).heap.size = w.heap.size + 1 := by simp
          rw [e2] at this
          unfold seenOf
          rw [this]
        rw [e1, e1]
        exact HF.out.2.2

end Go.Proofs.YtlmompdfombgeabGreat
