import Derived.Test.YtlmompdfombgeaaGreatK22
import Derived.Test.YtlmompdfombgeaaGreatK23
namespace Go.Proofs.YtlmompdfombgeaaGreat
open Go.RowKit Go.MapKept

/-- A name in the document's list. -/
def ncs (x : ByteArray × Int) : List Value := [.string x.1, .int .i64 x.2]
/-- A list of names. -/
def Nl (w : World) (v : Value) (l : List (ByteArray × Int)) : Prop := Rf w 2 v l.length (l.flatMap ncs)
/-- One of its own. -/
def No (w : World) (B : Nat) (v : Value) (l : List (ByteArray × Int)) : Prop := w.ownsRow B 138 2 v l.length (l.flatMap ncs)

theorem ncs_one (l : List (ByteArray × Int)) : ∀ u ∈ l.flatMap ncs, u.oneCell' = true := by
  intro u hu
  obtain ⟨x, _, hx⟩ := List.mem_flatMap.1 hu
  simp [ncs] at hx
  rcases hx with rfl | rfl <;> rfl

theorem No.nl {w : World} {B : Nat} {v : Value} {l : List (ByteArray × Int)} (h : No w B v l) : Nl w v l := rf_of_owns h (ncs_one l)

theorem rf_new (w : World) (t : TypeId) (cs : Array Value) (m : Nat) (hm : cs.size = m) (h1 : ∀ u ∈ cs.toList, u.oneCell' = true) : Rf (w.alloc (.cells cs t)) m (.slice (some ⟨w.heap.size, 0, none⟩) 1 1) 1 cs.toList := by
  have h : (w.alloc (.cells cs t)).ownsRow 0 t m (.slice (some ⟨w.heap.size, 0, none⟩) 1 1) 1 cs.toList := ⟨by simp [hm], .inr ⟨w.heap.size, 1, _, rfl, Nat.zero_le _, hp_new w _, Nat.le_refl _, by decide, by simp [hm], by rw [List.take_of_length_le (by simp [hm])]⟩⟩
  exact rf_of_owns h h1

theorem Tryz.info138 : (Tryz.prog.info? 138).map (fun i => (i.zero, i.size, i.bytes)) = some (some (.agg #[.string { data := #[] }, .int .i64 0]), 2, 24) := by kernel_rfl

theorem lo_append_none {κ : Type} [DecidableEq κ] {β : Type} {k : κ} : ∀ {l m : List (κ × β)}, lo k l = none → lo k (l ++ m) = lo k m
  | [], _, _ => rfl
  | x :: l, m, h => by
    have h : (if x.1 = k then some x.2 else lo k l) = none := h
    show (if x.1 = k then some x.2 else lo k (l ++ m)) = lo k m
    by_cases hx : x.1 = k
    · rw [if_pos hx] at h; cases h
    · rw [if_neg hx] at h ⊢
      exact lo_append_none h

theorem delA_take_succ (nm : ByteArray) (l : List (ByteArray × Int)) (k : Nat) (h : k < l.length) : delA nm (l.take (k + 1)) = if l[k].1 = nm then delA nm (l.take k) else delA nm (l.take k) ++ [l[k]] := by
  unfold delA
  rw [List.take_succ_eq_append_getElem h, List.filter_append]
  split
  · rename_i e; simp [e]
  · rename_i e; simp [e]

theorem delA_len (nm : ByteArray) (l : List (ByteArray × Int)) : (delA nm l).length ≤ l.length := List.length_filter_le _ _

theorem No.below {w w' : World} {B : Nat} {v : Value} {l : List (ByteArray × Int)} (h : No w B v l) (hb : Below w.heap.size w w') : No w' B v l := ownsRow_kept h (Kept.ofBelow hb) (fun _ _ e => e)
theorem Nl.below {w w' : World} {v : Value} {l : List (ByteArray × Int)} (h : Nl w v l) (hb : Below w.heap.size w w') : Nl w' v l := Rf.below h hb

theorem bel_on {a b c : World} (h : Below a.heap.size a b) (k : Below b.heap.size b c) : Below a.heap.size a c := h.trans (k.mono h.size)
theorem bel_al (w : World) (o : Obj) : Below w.heap.size w (w.alloc o) := (Below.refl _ _).alloc (Nat.le_refl _) o

/-- A row that is made anew grows; nothing old is written. -/
theorem grow_below {w W w' : World} {o : Obj} {e : TypeId} {m : Nat} {v : Value} {n : Nat} {xs : List Value} (hb : Below w.heap.size w W) (hown : W.ownsRow w.heap.size e m v n xs) (hg : (W.alloc o).grownBy w' v.ownBlock) : Below w.heap.size w w' := by
  have h1 := bel_on hb (bel_al W o)
  have h2 : Kept (fun q => v.ownBlock = some q) (W.alloc o) w' := (Kept.refl _ _).grown hg (fun _ _ e => e)
  exact h1.trans (h2.below h1.size (fun q hq e => by have := (hown.lt q e).1; omega))

set_option maxRecDepth 100000 in
set_option maxHeartbeats 3200000 in
theorem without_any (v : Value) (l : List (ByteArray × Int)) (nm : ByteArray) (w : World) (h : Nl w v l) (hl : l.length ≤ 100000) :
    Calls Tryz.prog 115 #[v, .string nm] w fun e w' => ∃ v', e = .returned v' ∧ No w' w.heap.size v' (delA nm l) ∧ Below w.heap.size w w' := by
  obtain ⟨ao, cap, rfl, hc, hcm⟩ := h.shape
  have H := hid h
  clear h
  go_enter Tryz.func115, Tryz.ntmps115
  go_wp2_with fail
  go_loopw [5, 6] (fun v5 ix wr => ∃ (k n : Nat) (a5 : Option Addr) (c5 : Nat), k ≤ l.length ∧ v5 = .slice a5 n c5 ∧ ix = .int .i64 k ∧ Hid (No wr w.heap.size (.slice a5 n c5) (delA nm (l.take k)) ∧ n = (delA nm (l.take k)).length ∧ Below w.heap.size w wr)) (fun _ ix _ => l.length - (intOf ix).toNat)
  case atStart => exact ⟨0, 0, none, 0, Nat.zero_le _, rfl, rfl, hid ⟨owns_nil _ _ _ _, rfl, Below.refl _ _⟩⟩
  case round =>
    obtain ⟨k, n, a5, c5, hk, rfl, rfl, HR⟩ := hrel
    by_cases hlt : k < l.length
    · have i1 : (k : Int) < (l.length : Int) := by omega
      obtain ⟨b, ofs, cap', e, -, -, hcell⟩ := Rf.elem (f := ncs) (fun _ => rfl) (by omega) H.out k hlt
      injection e with e1 e2 e3
      subst e1 e3
      clear e2
      have hds := delA_take_succ nm l k hlt
      obtain ⟨x, hx⟩ : ∃ x, x = l[k] := ⟨_, rfl⟩
      rw [← hx] at hcell hds
      obtain ⟨x1, x2⟩ := x
      have hcq := fun c u hu => ((HR.out.2.2.cell (World.block_lt_of_cell? _ _ (hcell c u hu))).trans (hcell c u hu))
      have y0 := (show wr.cell? ⟨b, ofs + k * 2, none⟩ = some (.string x1) from hcq 0 _ rfl)
      have y1 := (show wr.cell? ⟨b, ofs + k * 2 + 1, none⟩ = some (.int .i64 x2) from hcq 1 _ rfl)
      have hn : n ≤ 100000 := by have h1 := HR.out.2.1; have h2 := delA_len nm (l.take k); have h3 := List.length_take_le k l; omega
      clear hcell hcq hx
      by_cases hnm : x1 = nm
      · have HN := hid (show No wr w.heap.size (.slice a5 n c5) (delA nm (l.take (k + 1))) ∧ n = (delA nm (l.take (k + 1))).length ∧ Below w.heap.size w wr by rw [hds, if_pos hnm]; exact HR.out)
        clear hds HR
        subst hnm
        go_wp2
        clear y0 y1
        go_roundw
        case rel => first | exact ⟨k + 1, n, a5, c5, by omega, rfl, by go_num, HN⟩ | ((repeat apply Exists.intro); exact ⟨⟨k + 1, n, a5, c5, by omega, rfl, by go_num, HN⟩, rfl⟩)
        case measure => simp [intOf]; omega
      · rw [if_neg hnm] at hds
        have HDS := hid hds
        have hb1 : (x1.toList == nm.toList) = false := by simp; exact fun e => hnm (toList_inj e)
        have HSZ := hid (show w.heap.size ≤ (wr.alloc (.cells #[.string x1, .int .i64 x2] 138)).heap.size by have := HR.out.2.2.size; simp; omega)
        have HON := hid (show wr.ownsRow w.heap.size 138 2 (.slice a5 n c5) n ((delA nm (l.take k)).flatMap ncs) by have h1 := HR.out.1; have h2 := HR.out.2.1; unfold No at h1; rw [← h2] at h1; exact h1)
        clear hds
        go_wp2_with (
          at_builtin
          refine wpList_append_rf _ rfl (.tmp 20) (.tmp 25) 55 138 _ 2 24 rfl Tryz.underlying55 Tryz.info138 rfl (by omega) w.heap.size (.slice a5 n c5) n _ rfl (ownsRow_kept HON.out (Kept.ofBelow (bel_al _ _)) (fun _ _ h => h)) (.slice (some ⟨wr.heap.size, 0, none⟩) 1 1) 1 [.string x1, .int .i64 x2] rfl (rf_new wr 138 #[.string x1, .int .i64 x2] 2 rfl (by simp; exact ⟨rfl, rfl⟩)) (by omega) (by unfold maxLen; omega) HSZ.out ?_
          intro a6 c6 w6 hown hgr hob
          have H6 := hid (show No w6 w.heap.size (.slice a6 (n + 1) c6) (delA nm (l.take (k + 1))) ∧ n + 1 = (delA nm (l.take (k + 1))).length ∧ Below w.heap.size w w6 by
            rw [HDS.out]
            refine ⟨?_, by rw [List.length_append, HR.out.2.1]; rfl, grow_below HR.out.2.2 HR.out.1 hgr.out⟩
            unfold No
            rw [List.flatMap_append, List.length_append, ← HR.out.2.1]
            exact hown.out)
          clear hown hgr hob)
        clear y0 y1
        go_roundw
        case rel => first | exact ⟨k + 1, n + 1, a6, c6, by omega, rfl, by go_num, H6⟩ | ((repeat apply Exists.intro); exact ⟨⟨k + 1, n + 1, a6, c6, by omega, rfl, by go_num, H6⟩, rfl⟩)
        case measure => simp [intOf]; omega
    · have hkl : l.take k = l := List.take_of_length_le (by omega)
      go_wp2
      go_ret
      exact ⟨_, rfl, hkl ▸ HR.out.1, HR.out.2.2⟩

set_option maxRecDepth 100000 in
set_option maxHeartbeats 3200000 in
theorem of_any (v : Value) (l : List (ByteArray × Int)) (nm : ByteArray) (w : World) (h : Nl w v l) (hl : l.length ≤ 100000) :
    Calls Tryz.prog 127 #[v, .string nm] w fun e w' => e = .returned (.int .i64 ((lo nm l).getD 0)) ∧ w' = w := by
  obtain ⟨ao, cap, rfl, hc, hcm⟩ := h.shape
  have H := hid h
  clear h
  obtain ⟨r, hr⟩ : ∃ r, r = (lo nm l).getD 0 := ⟨_, rfl⟩
  rw [← hr]
  have HQ := hid hr
  clear hr
  go_enter Tryz.func127, Tryz.ntmps127
  go_wp2_with fail
  go_loop [5] (fun ix => ∃ (k : Nat), k ≤ l.length ∧ ix = .int .i64 k ∧ Hid (lo nm (l.take k) = none)) (fun ix => l.length - (intOf ix).toNat)
  case atStart => exact ⟨0, Nat.zero_le _, rfl, hid rfl⟩
  case round =>
    obtain ⟨k, hk, rfl, HR⟩ := hrel
    by_cases hlt : k < l.length
    · have i1 : (k : Int) < (l.length : Int) := by omega
      obtain ⟨b, ofs, cap', e, -, -, hcell⟩ := Rf.elem (f := ncs) (fun _ => rfl) (by omega) H.out k hlt
      injection e with e1 e2 e3
      subst e1 e3
      clear e2
      obtain ⟨x, hx⟩ : ∃ x, x = l[k] := ⟨_, rfl⟩
      rw [← hx] at hcell
      obtain ⟨x1, x2⟩ := x
      have y0 := (show w.cell? ⟨b, ofs + k * 2, none⟩ = some (.string x1) from hcell 0 _ rfl)
      have y1 := (show w.cell? ⟨b, ofs + k * 2 + 1, none⟩ = some (.int .i64 x2) from hcell 1 _ rfl)
      have HT := hid (show l.take (k + 1) = l.take k ++ [(x1, x2)] by rw [List.take_succ_eq_append_getElem hlt, ← hx])
      clear hcell hx
      by_cases hnm : x1 = nm
      · have hrr : r = x2 := by
          rw [HQ.out, ← List.take_append_drop (k + 1) l, HT.out, List.append_assoc, lo_append_none HR.out]
          simp [lo, hnm]
        subst hnm
        subst hrr
        go_wp2
        go_ret
        exact ⟨rfl, rfl⟩
      · have hb1 : (x1.toList == nm.toList) = false := by simp; exact fun e => hnm (toList_inj e)
        have HN := hid (show lo nm (l.take (k + 1)) = none by rw [HT.out, lo_append_none HR.out]; simp [lo]; exact fun e => hnm e)
        go_wp2
        clear y0 y1
        go_round
        case rel => exact ⟨k + 1, by omega, by go_num, HN⟩
        case measure => simp [intOf]; omega
    · have hkl : l.take k = l := List.take_of_length_le (by omega)
      have hrr : r = 0 := by rw [HQ.out, ← hkl, HR.out]; rfl
      subst hrr
      go_wp2
      go_ret
      exact ⟨rfl, rfl⟩

end Go.Proofs.YtlmompdfombgeaaGreat

namespace Go.Proofs.YtlmompdfombgeaaGreat
open Go.RowKit Go.MapKept

theorem insA_none {k : ByteArray} {v : Int} : ∀ {t : List (ByteArray × Int)}, (∀ y ∈ t, ¬ k.toList < y.1.toList) → insA k v t = t ++ [(k, v)]
  | [], _ => rfl
  | x :: t, h => by
    unfold insA
    rw [if_neg (h x (List.mem_cons_self ..)), insA_none fun y hy => h y (List.mem_cons_of_mem _ hy)]
    rfl

theorem insA_here {k : ByteArray} {v : Int} {x : ByteArray × Int} (hx : k.toList < x.1.toList) : ∀ {t : List (ByteArray × Int)}, (∀ y ∈ t, ¬ k.toList < y.1.toList) → insA k v (t ++ [x]) = t ++ [(k, v), x]
  | [], _ => by simp [insA, hx]
  | y :: t, h => by
    rw [List.cons_append]
    unfold insA
    rw [if_neg (h y (List.mem_cons_self ..)), insA_here hx fun y hy => h y (List.mem_cons_of_mem _ hy)]
    rfl

theorem insA_done {k : ByteArray} {v : Int} {x : ByteArray × Int} : ∀ {t : List (ByteArray × Int)}, (∃ y ∈ t, k.toList < y.1.toList) → insA k v (t ++ [x]) = insA k v t ++ [x]
  | [], h => by obtain ⟨y, hy, _⟩ := h; cases hy
  | y :: t, h => by
    rw [List.cons_append]
    unfold insA
    split
    · rfl
    · rename_i hn
      rw [insA_done (t := t)]
      · rfl
      · obtain ⟨z, hz, hk⟩ := h
        rcases List.mem_cons.1 hz with rfl | hz
        · exact absurd hk hn
        · exact ⟨z, hz, hk⟩

theorem insA_len (k : ByteArray) (v : Int) (l : List (ByteArray × Int)) : (insA k v l).length = l.length + 1 := by rw [(insA_perm k v l).length_eq]; rfl

theorem owns_mono {W : World} {B B' : Nat} {e : TypeId} {m : Nat} {v : Value} {n : Nat} {xs : List Value} (h : W.ownsRow B e m v n xs) (hB : B' ≤ B) : W.ownsRow B' e m v n xs := by
  refine ⟨h.1, ?_⟩
  rcases h.2 with h0 | ⟨g, cap, cur, e1, hb, rest⟩
  · exact .inl h0
  · exact .inr ⟨g, cap, cur, e1, Nat.le_trans hB hb, rest⟩

/-- with under way. -/
structure Wi (w wr : World) (v : Value) (n : Nat) (nm : ByteArray) (k : Int) (l : List (ByteArray × Int)) (i : Nat) (done : Bool) : Prop where
  o : No wr w.heap.size v (if done then insA nm k (l.take i) else l.take i)
  n : n = (if done then insA nm k (l.take i) else l.take i).length
  a : done = true → ∃ y ∈ l.take i, nm.toList < y.1.toList
  b : done = false → ∀ y ∈ l.take i, ¬ nm.toList < y.1.toList
  hb : Below w.heap.size w wr

theorem take_snoc' {α : Type} {l : List α} {i : Nat} (h : i < l.length) : l.take (i + 1) = l.take i ++ [l[i]] := List.take_succ_eq_append_getElem h

theorem Wi.len {w wr : World} {v : Value} {n : Nat} {nm : ByteArray} {k : Int} {l : List (ByteArray × Int)} {i : Nat} {done : Bool} (h : Wi w wr v n nm k l i done) : n ≤ l.length + 1 := by
  have h1 := h.n
  have h2 := List.length_take_le i l
  have h3 : (l.take i).length ≤ l.length := by rw [List.length_take]; omega
  cases done
  · simp at h1; omega
  · simp [insA_len] at h1; omega

/-- One more, the name ahead of it. -/
theorem Wi.here {w wr w' : World} {v : Value} {n : Nat} {nm : ByteArray} {k : Int} {l : List (ByteArray × Int)} {i : Nat} (h : Wi w wr v n nm k l i false) (hi : i < l.length) (hx : nm.toList < l[i].1.toList) {a : Option Addr} {c : Nat} (ho : w'.ownsRow w.heap.size 138 2 (.slice a (n + 1 + 1) c) (n + 1 + 1) ((l.take i).flatMap ncs ++ [.string nm, .int .i64 k] ++ ncs l[i])) (hb : Below w.heap.size w w') :
    Wi w w' (.slice a (n + 1 + 1) c) (n + 1 + 1) nm k l (i + 1) true := by
  have e : insA nm k (l.take (i + 1)) = l.take i ++ [(nm, k), l[i]] := by rw [take_snoc' hi]; exact insA_here hx (h.b rfl)
  have hn := h.n
  simp only [Bool.false_eq_true, if_false] at hn
  refine ⟨?_, ?_, fun _ => ⟨l[i], (by rw [take_snoc' hi]; exact List.mem_append_right _ (List.mem_singleton.2 rfl)), hx⟩, fun e => (by cases e), hb⟩
  · unfold No
    simp only [if_true]
    rw [e, List.length_append, ← hn, List.flatMap_append]
    simpa [ncs] using ho
  · simp only [if_true]
    rw [e, List.length_append, ← hn]
    rfl

/-- One more as it is. -/
theorem Wi.next {w wr w' : World} {v : Value} {n : Nat} {nm : ByteArray} {k : Int} {l : List (ByteArray × Int)} {i : Nat} {done : Bool} (h : Wi w wr v n nm k l i done) (hi : i < l.length) (hx : done = false → ¬ nm.toList < l[i].1.toList) {a : Option Addr} {c : Nat} (ho : w'.ownsRow w.heap.size 138 2 (.slice a (n + 1) c) (n + 1) ((if done then insA nm k (l.take i) else l.take i).flatMap ncs ++ ncs l[i])) (hb : Below w.heap.size w w') :
    Wi w w' (.slice a (n + 1) c) (n + 1) nm k l (i + 1) done := by
  have e : (if done then insA nm k (l.take (i + 1)) else l.take (i + 1)) = (if done then insA nm k (l.take i) else l.take i) ++ [l[i]] := by
    rw [take_snoc' hi]
    cases done
    · rfl
    · simp only [if_true]
      exact insA_done (h.a rfl)
  refine ⟨?_, ?_, fun hd => ?_, fun hd y hy => ?_, hb⟩
  · unfold No
    rw [e, List.length_append, ← h.n, List.flatMap_append]
    simpa using ho
  · rw [e, List.length_append, ← h.n]
    rfl
  · obtain ⟨y, hy, h2⟩ := h.a hd
    exact ⟨y, (by rw [take_snoc' hi]; exact List.mem_append_left _ hy), h2⟩
  · rw [take_snoc' hi] at hy
    rcases List.mem_append.1 hy with hy | hy
    · exact h.b hd y hy
    · rw [List.mem_singleton.1 hy]
      exact hx hd

theorem own_pair {w : World} {t : TypeId} {a b : Value} (ha : a.oneCell' = true) (hb : b.oneCell' = true) : Rf (w.alloc (.cells #[a, b] t)) 2 (.slice (some ⟨w.heap.size, 0, none⟩) 1 1) 1 [a, b] := rf_new w t #[a, b] 2 rfl (by simp; exact ⟨ha, hb⟩)

set_option maxRecDepth 100000 in
set_option maxHeartbeats 6400000 in
theorem with_any (v : Value) (l : List (ByteArray × Int)) (nm : ByteArray) (k : Int) (w : World) (h : Nl w v l) (hl : l.length ≤ 100000) :
    Calls Tryz.prog 116 #[v, .string nm, .int .i64 k] w fun e w' => ∃ v', e = .returned v' ∧ No w' w.heap.size v' (wthA nm k l) ∧ Below w.heap.size w w' := by
  have H := hid h
  obtain ⟨ao, cap, rfl, hc, hcm⟩ := h.shape
  clear h
  unfold wthA
  have hml := delA_len nm l
  go_enter Tryz.func116, Tryz.ntmps116
  go_upto_region 3 with (
    go_at_call 115
    refine (without_any _ l nm _ H.out hl).mono ?_
    rintro e w1 ⟨v1, rfl, ho1, hb1⟩
    obtain ⟨a1, c1, rfl⟩ := own_shape ho1
    have H1 := hid (And.intro ho1 hb1)
    clear ho1 hb1)
  obtain ⟨m, hm⟩ : ∃ m, m = delA nm l := ⟨_, rfl⟩
  have HM := hid hm
  rw [← hm] at H1 hml ⊢
  clear hm
  go_wp2_with fail
  go_loopw [7, 8, 9] (fun v7 dn ix wr => ∃ (i n : Nat) (a7 : Option Addr) (c7 : Nat) (done : Bool), i ≤ m.length ∧ v7 = .slice a7 n c7 ∧ dn = .bool done ∧ ix = .int .i64 i ∧ Hid (Wi w1 wr (.slice a7 n c7) n nm k m i done)) (fun _ _ ix _ => m.length - (intOf ix).toNat)
  case atStart => exact ⟨0, 0, none, 0, false, Nat.zero_le _, rfl, rfl, rfl, hid ⟨owns_nil _ _ _ _, rfl, fun e => (by cases e), fun _ y hy => (by simp at hy), Below.refl _ _⟩⟩
  case round =>
    obtain ⟨i, n, a7, c7, done, hi, rfl, rfl, rfl, HR⟩ := hrel
    have hnl := HR.out.len
    by_cases hlt : i < m.length
    · have i1 : (i : Int) < (m.length : Int) := by omega
      obtain ⟨b, ofs, cap', e, -, -, hcell⟩ := Rf.elem (f := ncs) (fun _ => rfl) (by omega) H1.out.1.nl i hlt
      injection e with e1 e2 e3
      subst e1 e3
      clear e2
      have HNX := hid (fun (w' : World) (a : Option Addr) (c : Nat) => HR.out.next (w' := w') (a := a) (c := c) hlt)
      have HHE := hid (fun (hd : done = false) (w' : World) (a : Option Addr) (c : Nat) => Wi.here (w' := w') (a := a) (c := c) (hd ▸ HR.out) hlt)
      obtain ⟨x, hx⟩ : ∃ x, x = m[i] := ⟨_, rfl⟩
      rw [← hx] at hcell HNX HHE
      obtain ⟨x1, x2⟩ := x
      have hcq := fun c u hu => ((HR.out.hb.cell (World.block_lt_of_cell? _ _ (hcell c u hu))).trans (hcell c u hu))
      have HY := hid (show ∀ W, Below w1.heap.size w1 W → W.cell? ⟨b, ofs + i * 2, none⟩ = some (.string x1) ∧ W.cell? ⟨b, ofs + i * 2 + 1, none⟩ = some (.int .i64 x2) from fun W hb => by
        have q := fun c u hu => ((hb.cell (World.block_lt_of_cell? _ _ (hcell c u hu))).trans (hcell c u hu))
        exact ⟨q 0 _ rfl, q 1 _ rfl⟩)
      obtain ⟨y0, y1⟩ := HY.out _ HR.out.hb
      have HSZ := hid (show ∀ (W : World) (o : Obj), Below w1.heap.size w1 W → w1.heap.size ≤ (W.alloc o).heap.size from fun W o h => by have := h.size; simp; omega)
      clear hcell hcq hx
      by_cases hh : done = false ∧ nm.toList < x1.toList
      · obtain ⟨rfl, hx⟩ := hh
        have hbl : Op.bytesLess nm.toList x1.toList = true := by rw [Go.Proofs.bytesLess_eq]; simpa using hx
        have HX := hid hx
        have HON := hid (show wr.ownsRow w1.heap.size 138 2 (.slice a7 n c7) n ((m.take i).flatMap ncs) by have h1 := HR.out.o; have h2 := HR.out.n; simp only [Bool.false_eq_true, if_false] at h1 h2; unfold No at h1; rw [← h2] at h1; exact h1)
        have HRB := hid HR.out.hb
        clear hx HR
        go_upto_region 9 with (
          at_builtin
          refine wpList_append_rf _ rfl (.tmp 30) (.tmp 34) 55 138 _ 2 24 rfl Tryz.underlying55 Tryz.info138 rfl (by omega) w1.heap.size (.slice a7 n c7) n _ rfl (ownsRow_kept HON.out (Kept.ofBelow (bel_al _ _)) (fun _ _ h => h)) (.slice (some ⟨wr.heap.size, 0, none⟩) 1 1) 1 [.string nm, .int .i64 k] rfl (own_pair rfl rfl) (by omega) (by unfold maxLen; omega) (HSZ.out _ _ HRB.out) ?_
          intro a6 c6 w6 hown hgr hob
          have hb6 := grow_below HRB.out HON.out hgr.out
          have H6 := hid (And.intro hown.out hb6)
          clear hown hgr hob y0 y1
          obtain ⟨y0, y1⟩ := HY.out _ hb6
          clear hb6)
        go_wp2_with (
          at_builtin
          refine wpList_append_rf _ rfl (.tmp 36) (.tmp 41) 55 138 _ 2 24 rfl Tryz.underlying55 Tryz.info138 rfl (by omega) w1.heap.size (.slice a6 (n + 1) c6) (n + 1) _ rfl (ownsRow_kept H6.out.1 (Kept.ofBelow (bel_al _ _)) (fun _ _ h => h)) (.slice (some ⟨w6.heap.size, 0, none⟩) 1 1) 1 [.string x1, .int .i64 x2] rfl (own_pair rfl rfl) (by omega) (by unfold maxLen; omega) (HSZ.out _ _ H6.out.2) ?_
          intro a8 c8 w8 hown hgr hob
          have H8 := hid (HHE.out rfl w8 a8 c8 HX.out hown.out (grow_below H6.out.2 H6.out.1 hgr.out))
          clear hown hgr hob)
        clear y0 y1
        go_roundw
        case rel => first | exact ⟨i + 1, n + 1 + 1, a8, c8, true, by omega, rfl, rfl, by go_num, H8⟩ | ((repeat apply Exists.intro); exact ⟨⟨i + 1, n + 1 + 1, a8, c8, true, by omega, rfl, rfl, by go_num, H8⟩, rfl⟩)
        case measure => simp [intOf]; omega
      · have HX := hid (show done = false → ¬ nm.toList < x1.toList from fun hd hx => hh ⟨hd, hx⟩)
        have hbl : done = false → Op.bytesLess nm.toList x1.toList = false := fun hd => by rw [Go.Proofs.bytesLess_eq]; simpa using HX.out hd
        have HON := hid (show wr.ownsRow w1.heap.size 138 2 (.slice a7 n c7) n ((if done then insA nm k (m.take i) else m.take i).flatMap ncs) by have h1 := HR.out.o; have h2 := HR.out.n; unfold No at h1; rw [← h2] at h1; exact h1)
        have HRB := hid HR.out.hb
        clear hh HR
        cases done
        · have hbm := hbl rfl
          clear hbl
          go_wp2_with (
            at_builtin
            refine wpList_append_rf _ rfl (.tmp 36) (.tmp 41) 55 138 _ 2 24 rfl Tryz.underlying55 Tryz.info138 rfl (by omega) w1.heap.size (.slice a7 n c7) n _ rfl (ownsRow_kept HON.out (Kept.ofBelow (bel_al _ _)) (fun _ _ h => h)) (.slice (some ⟨wr.heap.size, 0, none⟩) 1 1) 1 [.string x1, .int .i64 x2] rfl (own_pair rfl rfl) (by omega) (by unfold maxLen; omega) (HSZ.out _ _ HRB.out) ?_
            intro a8 c8 w8 hown hgr hob
            have H8 := hid (HNX.out w8 a8 c8 HX.out hown.out (grow_below HRB.out HON.out hgr.out))
            clear hown hgr hob)
          clear y0 y1
          go_roundw
          case rel => first | exact ⟨i + 1, n + 1, a8, c8, _, by omega, rfl, rfl, by go_num, H8⟩ | ((repeat apply Exists.intro); exact ⟨⟨i + 1, n + 1, a8, c8, _, by omega, rfl, rfl, by go_num, H8⟩, rfl⟩)
          case measure => simp [intOf]; omega
        · clear hbl
          go_wp2_with (
            at_builtin
            refine wpList_append_rf _ rfl (.tmp 36) (.tmp 41) 55 138 _ 2 24 rfl Tryz.underlying55 Tryz.info138 rfl (by omega) w1.heap.size (.slice a7 n c7) n _ rfl (ownsRow_kept HON.out (Kept.ofBelow (bel_al _ _)) (fun _ _ h => h)) (.slice (some ⟨wr.heap.size, 0, none⟩) 1 1) 1 [.string x1, .int .i64 x2] rfl (own_pair rfl rfl) (by omega) (by unfold maxLen; omega) (HSZ.out _ _ HRB.out) ?_
            intro a8 c8 w8 hown hgr hob
            have H8 := hid (HNX.out w8 a8 c8 HX.out hown.out (grow_below HRB.out HON.out hgr.out))
            clear hown hgr hob)
          clear y0 y1
          go_roundw
          case rel => first | exact ⟨i + 1, n + 1, a8, c8, _, by omega, rfl, rfl, by go_num, H8⟩ | ((repeat apply Exists.intro); exact ⟨⟨i + 1, n + 1, a8, c8, _, by omega, rfl, rfl, by go_num, H8⟩, rfl⟩)
          case measure => simp [intOf]; omega
    · have hkl : m.take i = m := List.take_of_length_le (by omega)
      cases done
      · have HON := hid (show wr.ownsRow w1.heap.size 138 2 (.slice a7 n c7) n (m.flatMap ncs) ∧ n = m.length ∧ insA nm k m = m ++ [(nm, k)] by
          have h1 := HR.out.o
          have h2 := HR.out.n
          have h3 := HR.out.b rfl
          simp only [Bool.false_eq_true, if_false, hkl] at h1 h2 h3
          unfold No at h1
          rw [← h2] at h1
          exact ⟨h1, h2, insA_none h3⟩)
        have HRB := hid HR.out.hb
        have HSZ := hid (show w1.heap.size ≤ (wr.alloc (.cells #[.string nm, .int .i64 k] 138)).heap.size by have := HR.out.hb.size; simp; omega)
        clear HR hkl
        go_wp2_with (
          at_builtin
          refine wpList_append_rf _ rfl (.tmp 45) (.tmp 49) 55 138 _ 2 24 rfl Tryz.underlying55 Tryz.info138 rfl (by omega) w1.heap.size (.slice a7 n c7) n _ rfl (ownsRow_kept HON.out.1 (Kept.ofBelow (bel_al _ _)) (fun _ _ h => h)) (.slice (some ⟨wr.heap.size, 0, none⟩) 1 1) 1 [.string nm, .int .i64 k] rfl (own_pair rfl rfl) (by omega) (by unfold maxLen; omega) HSZ.out ?_
          intro a8 c8 w8 hown hgr hob
          have H8 := hid (And.intro hown.out (grow_below HRB.out HON.out.1 hgr.out))
          clear hown hgr hob)
        go_ret
        refine ⟨_, rfl, ?_, bel_on H1.out.2 H8.out.2⟩
        unfold No
        rw [← HM.out, HON.out.2.2, List.length_append, List.flatMap_append, ← HON.out.2.1]
        exact owns_mono H8.out.1 H1.out.2.size
      · go_wp2
        go_ret
        refine ⟨_, rfl, ?_, bel_on H1.out.2 HR.out.hb⟩
        have h1 := HR.out.o
        have h2 := HR.out.n
        simp only [if_true, hkl] at h1 h2
        rw [← HM.out]
        exact owns_mono h1 H1.out.2.size

end Go.Proofs.YtlmompdfombgeaaGreat

namespace Go.Proofs.YtlmompdfombgeaaGreat
open Go.RowKit Go.MapKept

/-- A change in the document's list. -/
def ccs (p : Chg × Value) : List Value := match p.1 with | .inl _ => [.bool false, .int .i64 0, p.2] | .inr k => [.bool true, .int .i64 k, .slice none 0 0]

theorem ccs_len (p : Chg × Value) : (ccs p).length = 3 := by
  unfold ccs
  split <;> rfl

/-- A row of changes, each with its bytes. -/
structure Pd (w : World) (v : Value) (ps : List (Chg × Value)) : Prop where
  r : Rf w 3 v ps.length (ps.flatMap ccs)
  d : ∀ p ∈ ps, ∀ ys, p.1 = .inl ys → Sl w p.2 ys

theorem Pd.below {w w' : World} {v : Value} {ps : List (Chg × Value)} (h : Pd w v ps) (hb : Below w.heap.size w w') : Pd w' v ps := ⟨h.r.below hb, fun p hp ys e => (h.d p hp ys e).below hb⟩

theorem cutG {A : Type} {F : A → World → Prop} {a : A} {w : World} (I : World → Prop) (h : I w) (k : ∀ w', I w' → F a w') : F a w := k w h

theorem cells3 {w : World} {p : Nat} {a b c : Value} {t : TypeId} (h : w.heap[p]? = some (.cells #[a, b, c] t (0, 0))) : w.cell? ⟨p, 0, none⟩ = some a ∧ w.cell? ⟨p, 1, none⟩ = some b ∧ w.cell? ⟨p, 2, none⟩ = some c := by
  refine ⟨?_, ?_, ?_⟩ <;> (rw [cell_of_row _ _ _ _ _ _ h]; rfl)

theorem peak_take (safe : List Int) (cs : List Chg) (k : Nat) : peakC safe (cs.take k) ≤ peakC safe cs := by
  have h := (stepC_ge (cs.take k) ((safe, List.replicate safe.length false), safe.length) (Nat.le_refl _)).2
  have h2 := (stepC_ge (cs.drop k) _ h).1
  rw [← List.foldl_append, List.take_append_drop] at h2
  exact h2

theorem rowC_inl (safe : List Int) (cs : List Chg) (ys : List Int) : (rowC safe (cs ++ [.inl ys])).1.length = (rowC safe cs).1.length + ys.length := by
  rw [rowC_snoc]; simp [doC]

theorem rowC_inr (safe : List Int) (cs : List Chg) (c : Nat) (h : c ≤ (rowC safe cs).1.length) : (rowC safe (cs ++ [.inr c])).1.length = c := by
  rw [rowC_snoc]; simp [doC]; omega

set_option maxRecDepth 100000 in
set_option maxHeartbeats 3200000 in
theorem length_any (no : Int) (sv pv : Value) (safe : List Int) (ps : List (Chg × Value)) (w : World) (hs : Sl w sv safe) (hp : Pd w pv ps) (hc : CutsOK safe (ps.map Prod.fst)) (hpk : peakC safe (ps.map Prod.fst) ≤ 4194304) (hn : ps.length ≤ 1000000) :
    Calls Tryz.prog 101 #[.agg #[.int .i64 no, sv, pv]] w fun e w' => e = .returned (.tuple #[.int .i64 ((rowC safe (ps.map Prod.fst)).1.length : Nat), .int .i64 (peakC safe (ps.map Prod.fst) : Nat)]) ∧ Below w.heap.size w w' := by
  obtain ⟨asf, cs, rfl, -, -⟩ := hs
  obtain ⟨ap, cp, rfl, -, -⟩ := hp.r.shape
  have hba := bel_al w (.cells #[.int .i64 no, .slice asf safe.length cs, .slice ap ps.length cp] 141)
  have H0 := hid (And.intro (hp.below hba) (And.intro hba (hp_new w (.cells #[.int .i64 no, .slice asf safe.length cs, .slice ap ps.length cp] 141))))
  have hsl : safe.length ≤ 4194304 := Nat.le_trans (safe_le_peak safe (ps.map Prod.fst)) hpk
  have HC := hid (And.intro hc hpk)
  clear hp hba hc hpk
  go_enter Tryz.func101, Tryz.ntmps101
  go_upto_region 1 with fail
  refine cutG (fun W => Pd W (.slice ap ps.length cp) ps ∧ Below w.heap.size w W ∧ W.heap[w.heap.size]? = some (.cells #[.int .i64 no, .slice asf safe.length cs, .slice ap ps.length cp] 141 (0, 0))) H0.out ?_
  rintro W ⟨hpW, hbW, hblk⟩
  obtain ⟨z0, z1, z2⟩ := cells3 hblk
  have HP := hid hpW
  have HB := hid hbW
  clear H0 hpW hbW hblk
  go_wp2_with fail
  go_loop [4, 5, 6] (fun v4 v5 ix => ∃ (k a b : Nat), k ≤ ps.length ∧ v4 = .int .i64 a ∧ v5 = .int .i64 b ∧ ix = .int .i64 k ∧ a ≤ b ∧ b ≤ 4194304 ∧ Hid (a = (rowC safe ((ps.map Prod.fst).take k)).1.length ∧ b = peakC safe ((ps.map Prod.fst).take k))) (fun _ _ ix => ps.length - (intOf ix).toNat)
  case atStart => exact ⟨0, safe.length, safe.length, Nat.zero_le _, rfl, rfl, rfl, Nat.le_refl _, hsl, hid ⟨by simp [rowC], by simp [peakC]⟩⟩
  case round =>
    obtain ⟨k, a, b, hk, rfl, rfl, rfl, hab, hb4, HR⟩ := hrel
    by_cases hlt : k < ps.length
    · have i1 : (k : Int) < (ps.length : Int) := by omega
      obtain ⟨g, ofs, cap', e, -, -, hcell⟩ := Rf.elem (f := ccs) ccs_len (by omega) HP.out.r k hlt
      injection e with e1 e2 e3
      subst e1 e3
      clear e2
      have hd := HP.out.d ps[k] (List.getElem_mem hlt)
      have htk : (ps.map Prod.fst).take (k + 1) = (ps.map Prod.fst).take k ++ [ps[k].1] := by rw [List.take_succ_eq_append_getElem (by simpa using hlt)]; simp
      have hget : (ps.map Prod.fst)[k]? = some ps[k].1 := by simp [hlt]
      have hpt : peakC safe ((ps.map Prod.fst).take (k + 1)) ≤ peakC safe (ps.map Prod.fst) := peak_take safe (ps.map Prod.fst) (k + 1)
      have hps : peakC safe ((ps.map Prod.fst).take (k + 1)) = max (peakC safe ((ps.map Prod.fst).take k)) (rowC safe ((ps.map Prod.fst).take (k + 1))).1.length := by rw [htk]; exact peakC_snoc _ _ _
      obtain ⟨x, hx⟩ : ∃ x, x = ps[k] := ⟨_, rfl⟩
      rw [← hx] at hcell hd htk hget
      obtain ⟨ch, dv⟩ := x
      cases ch with
      | inl ys =>
        obtain ⟨ad, cd, e, -, -⟩ := hd ys rfl
        dsimp only at e
        subst e
        have y0 := (show W.cell? ⟨g, ofs + k * 3, none⟩ = some (.bool false) from hcell 0 _ rfl)
        have y1 := (show W.cell? ⟨g, ofs + k * 3 + 1, none⟩ = some (.int .i64 0) from hcell 1 _ rfl)
        have y2 := (show W.cell? ⟨g, ofs + k * 3 + 2, none⟩ = some (.slice ad ys.length cd) from hcell 2 _ rfl)
        have hrl : (rowC safe ((ps.map Prod.fst).take (k + 1))).1.length = a + ys.length := by rw [htk, HR.out.1]; exact rowC_inl _ _ _
        rw [hrl, ← HR.out.2] at hps
        have hys : a + ys.length ≤ 4194304 := by have := HC.out.2; omega
        have HN := hid (And.intro hrl hps)
        clear hcell hd htk hget hpt hps hrl hx
        by_cases hm : b < a + ys.length
        · have hm' : (b : Int) < (a : Int) + (ys.length : Int) := by omega
          go_wp2
          clear y0 y1 y2
          go_round
          case rel => exact ⟨k + 1, a + ys.length, a + ys.length, by omega, by go_num, by go_num, by go_num, Nat.le_refl _, hys, hid ⟨HN.out.1.symm, by rw [HN.out.2]; omega⟩⟩
          case measure => simp [intOf]; omega
        · have hm' : ¬ (b : Int) < (a : Int) + (ys.length : Int) := by omega
          go_wp2
          clear y0 y1 y2
          go_round
          case rel => exact ⟨k + 1, a + ys.length, b, by omega, by go_num, rfl, by go_num, by omega, hb4, hid ⟨HN.out.1.symm, by rw [HN.out.2]; omega⟩⟩
          case measure => simp [intOf]; omega
      | inr c =>
        have y0 := (show W.cell? ⟨g, ofs + k * 3, none⟩ = some (.bool true) from hcell 0 _ rfl)
        have y1 := (show W.cell? ⟨g, ofs + k * 3 + 1, none⟩ = some (.int .i64 c) from hcell 1 _ rfl)
        have hcc : c ≤ a := by rw [HR.out.1]; exact HC.out.1 k c hget
        have hrl : (rowC safe ((ps.map Prod.fst).take (k + 1))).1.length = c := by rw [htk]; exact rowC_inr _ _ _ (by rw [← HR.out.1]; exact hcc)
        rw [hrl, ← HR.out.2] at hps
        have HN := hid (And.intro hrl hps)
        have hm' : ¬ (b : Int) < (c : Int) := by omega
        clear hcell hd htk hget hpt hps hrl hx
        go_wp2
        clear y0 y1
        go_round
        case rel => exact ⟨k + 1, c, b, by omega, rfl, rfl, by go_num, by omega, hb4, hid ⟨HN.out.1.symm, by rw [HN.out.2]; omega⟩⟩
        case measure => simp [intOf]; omega
    · have hkl : (ps.map Prod.fst).take k = ps.map Prod.fst := List.take_of_length_le (by simp; omega)
      have HN := hid (show a = (rowC safe (ps.map Prod.fst)).1.length ∧ b = peakC safe (ps.map Prod.fst) by have := HR.out; rwa [hkl] at this)
      go_wp2
      go_ret2
      refine ⟨?_, HB.out⟩
      rw [← HN.out.1, ← HN.out.2]
      rfl

end Go.Proofs.YtlmompdfombgeaaGreat
