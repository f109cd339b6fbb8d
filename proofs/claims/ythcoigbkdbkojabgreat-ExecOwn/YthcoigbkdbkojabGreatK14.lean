import Derived.Test.YthcoigbkdbkojabGreatK13
set_option maxRecDepth 100000
namespace Go.Proofs.YthcoigbkdbkojabGreat
open Go.RowKit Go.MapKept
open V (hp_new hp_lt hp_below hp_alloc kl)
theorem kl_emp (s : ByteArray) : kl s emp = false := by
  unfold kl
  rw [emp_toList]
  cases s.toList <;> rfl
def OwnP (l : KV) (text r : ByteArray) : Prop := (r = emp ∨ ∃ v, lkp r l = some v ∧ v.k ≠ 0 ∧ kl text r = true) ∧ ∀ k v, lkp k l = some v → v.k ≠ 0 → kl text k = true → r ≠ emp ∧ kl k r = false
def OwnS (l : KV) (text r : ByteArray) (es : Array MapEntry) (seen : Array Nat) : Prop := (r = emp ∨ ∃ v, lkp r l = some v ∧ v.k ≠ 0 ∧ kl text r = true) ∧ ∀ x ∈ es.toList, x ∉ (leftOf es seen).toList → ∀ k v, x.key = .string k → x.val = Vd.val v → v.k ≠ 0 → kl text k = true → r ≠ emp ∧ kl k r = false
theorem val_inj {a b : Vd} (h : a.val = b.val) : a = b := by
  obtain ⟨k, i, t⟩ := a
  obtain ⟨k2, i2, t2⟩ := b
  simp only [Vd.val, vl, Value.agg.injEq] at h
  simp at h
  obtain ⟨rfl, rfl, rfl⟩ := h
  rfl
theorem lkp_mem : ∀ {l : KV} {k : ByteArray} {v : Vd}, lkp k l = some v → (k, v) ∈ l
  | [], _, _, h => by cases h
  | x :: l, k, v, h => by
    unfold lkp at h
    by_cases e : x.1 = k
    · rw [if_pos e] at h
      cases h
      rw [← e]
      simp
    · rw [if_neg e] at h
      exact List.mem_cons_of_mem _ (lkp_mem h)
theorem mem_lkp : ∀ {l : KV} {k : ByteArray} {v : Vd}, (l.map Prod.fst).Nodup → (k, v) ∈ l → lkp k l = some v
  | [], _, _, _, h => by cases h
  | x :: l, k, v, hn, h => by
    rw [List.map_cons, List.nodup_cons] at hn
    unfold lkp
    rcases List.mem_cons.1 h with rfl | h2
    · rw [if_pos rfl]
    · rw [if_neg (fun e => hn.1 (by rw [e]; exact List.mem_map.2 ⟨_, h2, rfl⟩))]
      exact mem_lkp hn.2 h2
theorem own_start (l : KV) (text : ByteArray) (es : Array MapEntry) : OwnS l text emp es #[] :=
  ⟨.inl rfl, fun x hx hn => by rw [left_zero] at hn; exact absurd hx hn⟩
section
variable {w w' : World} {B mb M : Nat} {s : Ms} {td : List Vd} {lk : List (ByteArray × ByteArray)} {l : KV}
theorem own_end {text r : ByteArray} {es : Array MapEntry} {seen : Array Nat} {c : Nat} (g : MG KS w M (kvV l) es c) (h : OwnS l text r es seen) (h0 : (leftOf es seen).size = 0) : OwnP l text r := by
  refine ⟨h.1, fun k v hk hv ht => ?_⟩
  have hm := lkp_mem hk
  have h1 : (Value.string k, v.val) ∈ es.toList.map (fun e => (e.key, e.val)) := by
    rw [g.kvs]
    unfold kvV
    rw [List.map_map]
    exact List.mem_map.2 ⟨(k, v), hm, rfl⟩
  obtain ⟨x, hx, e⟩ := List.mem_map.1 h1
  have he : leftOf es seen = #[] := Array.eq_empty_of_size_eq_zero h0
  injection e with e1 e2
  exact h.2 x hx (by rw [he]; simp) k v e1 e2 hv ht
theorem own_in {es : Array MapEntry} {c : Nat} (g : MG KS w M (kvV l) es c) {e : MapEntry} (he : e ∈ es.toList) : ∃ k v, e.key = .string k ∧ e.val = Vd.val v ∧ lkp k l = some v := by
  have h1 : (e.key, e.val) ∈ es.toList.map (fun e => (e.key, e.val)) := List.mem_map.2 ⟨e, he, rfl⟩
  rw [g.kvs] at h1
  unfold kvV at h1
  rw [List.map_map] at h1
  obtain ⟨x, hx, e1⟩ := List.mem_map.1 h1
  injection e1 with e1 e2
  have hk := g.keys
  rw [kvV_keys] at hk
  exact ⟨x.1, x.2, e1.symm, e2.symm, mem_lkp hk hx⟩
theorem own_take {text r k : ByteArray} {v : Vd} {es : Array MapEntry} {seen : Array Nat} {e : MapEntry} (h : OwnS l text r es seen) (hk : e.key = .string k) (_hv : e.val = Vd.val v) (hl : lkp k l = some v) (h1 : v.k ≠ 0) (h2 : kl text k = true) (h3 : r = emp ∨ kl k r = true) (hnd : (es.toList.map MapEntry.born).Nodup) (he : e ∈ es.toList) : OwnS l text k es (seen.push e.born) := by
  have hke : k ≠ emp := fun e => by rw [e, kl_emp] at h2; cases h2
  refine ⟨.inr ⟨v, hl, h1, h2⟩, fun x hx hn k0 v0 e1 e2 hv0 ht => ⟨hke, ?_⟩⟩
  by_cases hx2 : x ∈ (leftOf es seen).toList
  · have hb : x.born = e.born := by
      rw [left_push] at hn
      by_cases hb : x.born = e.born
      · exact hb
      · exact absurd (List.mem_filter.2 ⟨hx2, by simpa using hb⟩) hn
    have hxe : x = e := by
      have a1 := find_born x es.toList hnd hx
      have a2 := find_born e es.toList hnd he
      rw [hb] at a1
      rw [a1] at a2
      injection a2
    rw [hxe, hk] at e1
    injection e1 with e1
    rw [← e1]
    exact V.kl_irrefl k
  · obtain ⟨a1, a2⟩ := h.2 x hx hx2 k0 v0 e1 e2 hv0 ht
    rcases h3 with h3 | h3
    · exact absurd h3 a1
    · cases hq : kl k0 k
      · rfl
      · rw [V.kl_trans hq h3] at a2
        cases a2
theorem own_skip {text r k : ByteArray} {v : Vd} {es : Array MapEntry} {seen : Array Nat} {e : MapEntry} (h : OwnS l text r es seen) (hk : e.key = .string k) (hv : e.val = Vd.val v) (h1 : v.k ≠ 0 → kl text k = true → r ≠ emp ∧ kl k r = false) (hnd : (es.toList.map MapEntry.born).Nodup) (he : e ∈ es.toList) : OwnS l text r es (seen.push e.born) := by
  refine ⟨h.1, fun x hx hn k0 v0 e1 e2 hv0 ht => ?_⟩
  by_cases hx2 : x ∈ (leftOf es seen).toList
  · have hb : x.born = e.born := by
      rw [left_push] at hn
      by_cases hb : x.born = e.born
      · exact hb
      · exact absurd (List.mem_filter.2 ⟨hx2, by simpa using hb⟩) hn
    have hxe : x = e := by
      have a1 := find_born x es.toList hnd hx
      have a2 := find_born e es.toList hnd he
      rw [hb] at a1
      rw [a1] at a2
      injection a2
    rw [hxe, hk] at e1
    rw [hxe, hv] at e2
    injection e1 with e1
    have e2 := val_inj e2
    rw [← e1] at ht ⊢
    rw [← e2] at hv0
    exact h1 hv0 ht
  · exact h.2 x hx hx2 k0 v0 e1 e2 hv0 ht
def iterOf (w : World) (b : Nat) : Array Nat := match w.heap[b]? with | some (.mapIter _ _ s _) => s | _ => #[]
structure OI (w0 : World) (ib M c : Nat) (seen : Array Nat) (w : World) : Prop where
  it : w.heap[ib]? = some (.mapIter (some M) c seen c)
  bl : Below w0.heap.size w0 w
  ge : w0.heap.size ≤ ib
theorem OI.next {w0 : World} {ib c : Nat} {seen : Array Nat} (h : OI w0 ib M c seen w) (m : Nat) (x : Nat) (o : Obj) : OI w0 ib M c (seen.push x) ((puts (w.drewN m) ib (.mapIter (some M) c (seen.push x) c)).alloc o) := by
  have hb : Below w0.heap.size w0 (puts (w.drewN m) ib (.mapIter (some M) c (seen.push x) c)) := by
    have h1 := h.bl
    refine ⟨h1.os, h1.tape, h1.output, by rw [puts_size]; exact h1.size, fun k hk => ?_⟩
    have hg := h.ge
    rw [puts_other _ _ (by omega)]
    exact h1.block k hk
  exact ⟨hp_alloc (puts_same (w := w.drewN m) h.it) _, hb.alloc hb.size _, h.ge⟩
set_option maxHeartbeats 6400000 in
theorem ownAb_any (text : ByteArray) (h : MX w B mb s td lk M (kvV l)) :
    Calls Tryz.prog 129 #[.pointer (some ⟨mb, 0, none⟩), .string text] w fun e w' => ∃ r, e = .returned (.string r) ∧ OwnP l text r ∧ Below w.heap.size w w' := by
  obtain ⟨es, c, g⟩ := h.mg
  have hr := run_range_map (P := Tryz.prog) w 74 9 29 M es c Tryz.underlying74 g.blk
  obtain ⟨-, -, -, -, a4, -⟩ := h.m.cells
  rw [h.wv] at a4
  have hMl := hp_lt g.blk
  have H := hid (And.intro h g)
  clear h g
  go_enter Tryz.func129, Tryz.ntmps129
  go_wp2
  go_loopw [5] (fun b wr => ∃ (seen : Array Nat) (r : ByteArray), b = .string r ∧ Hid (OI w w.heap.size M c seen wr ∧ OwnS l text r es seen)) (fun _ wr => (leftOf es (iterOf wr w.heap.size)).size)
  case atStart => exact ⟨#[], emp, rfl, hid ⟨⟨hp_new w _, below1 w _, Nat.le_refl _⟩, own_start l text es⟩⟩
  case round =>
    obtain ⟨seen, r, rfl, HR⟩ := hrel
    have g2 := H.out.2.below HR.out.1.bl
    rcases next_at wr 0 w.heap.size M c seen es HR.out.1.it g2.blk g2.hold with ⟨hz, hx⟩ | ⟨e, he, q, hx⟩
    · have HZ := hid (own_end g2 HR.out.2 hz)
      clear hz g2
      go_wp2
      go_ret
      exact ⟨r, rfl, HZ.out, HR.out.1.bl⟩
    · have hes : e ∈ es.toList := by simp [leftOf] at he ⊢; exact he.1
      obtain ⟨k, v, hk, hv, hl⟩ := own_in g2 hes
      have hen := entry_at (puts (wr.drewN q) w.heap.size (.mapIter (some M) c (seen.push e.born) c)) w.heap.size M c seen es e (puts_same (w := wr.drewN q) HR.out.1.it) (by rw [puts_other _ _ (by omega)]; exact g2.blk) hes g2.nd
      have HM : Hid ((leftOf es (iterOf wr w.heap.size)).size > (leftOf es (seen.push e.born)).size) := hid (by
        have e2 : iterOf wr w.heap.size = seen := by unfold iterOf; rw [HR.out.1.it]
        rw [e2]
        exact left_less he)
      have HE := hid (And.intro hes (And.intro hk (And.intro hv (And.intro hl g2.nd))))
      rw [hk, hv] at hx hen
      have HO := hid (fun o => HR.out.1.next q e.born o)
      obtain ⟨eb, heb⟩ : ∃ eb, eb = e.born := ⟨_, rfl⟩
      rw [← heb] at hx hen HM HO
      have HEB := hid heb
      clear heb
      generalize hPW : puts (wr.drewN q) w.heap.size (.mapIter (some M) c (seen.push eb) c) = W at *
      obtain ⟨vk, vi, vt⟩ := v
      replace hx : (Instr.next (.pointer (some ⟨w.heap.size, 0, none⟩)) false 0).run Tryz.prog wr = .ok (.tuple #[.bool true, .string k, vl vk vi vt]) W := hx
      replace hen : (Instr.entry (.pointer (some ⟨w.heap.size, 0, none⟩))).run Tryz.prog W = .ok (.tuple #[.string k, vl vk vi vt]) W := hen
      clear he hes hk hv hl g2 hPW
      have FIN : ∀ (r' : ByteArray), OwnS l text r' es (seen.push eb) → Hid (∃ (seen' : Array Nat) (r2 : ByteArray), Value.string r' = .string r2 ∧ Hid (OI w w.heap.size M c seen' (W.alloc (vo vk vi vt)) ∧ OwnS l text r2 es seen')) := fun r' ho => hid ⟨seen.push eb, r', rfl, hid ⟨HO.out _, ho⟩⟩
      have MEA : Hid ((leftOf es (iterOf (W.alloc (vo vk vi vt)) w.heap.size)).size < (leftOf es (iterOf wr w.heap.size)).size) := hid (by
        have h1 := HO.out (vo vk vi vt)
        rw [show iterOf (W.alloc (vo vk vi vt)) w.heap.size = seen.push eb by unfold iterOf; rw [h1.it]]
        exact HM.out)
      by_cases c1 : vk = 0
      · subst c1
        have SK := hid (show (0 : Int) ≠ 0 → kl text k = true → r ≠ emp ∧ kl k r = false from fun h => absurd rfl h)
        have OW := hid (show OwnS l text r es (seen.push eb) from by rw [HEB.out]; exact own_skip HR.out.2 HE.out.2.1 HE.out.2.2.1 (by exact SK.out) HE.out.2.2.2.2 HE.out.1)
        clear HE HM HO
        go_wp2
        go_roundw
        case rel => exact (FIN _ OW.out).out
        case measure => exact MEA.out
      · have c1b : (vk == 0) = false := by simpa using c1
        have N1 := hid c1
        cases c2 : kl text k
        · by_cases c3 : k = text
          · have c3b : (k.toList == text.toList) = true := by rw [c3]; simp
            have SK := hid (show vk ≠ 0 → kl text k = true → r ≠ emp ∧ kl k r = false from fun _ h => by rw [c2] at h; cases h)
            clear c1 c2 c3
            have OW := hid (show OwnS l text r es (seen.push eb) from by rw [HEB.out]; exact own_skip HR.out.2 HE.out.2.1 HE.out.2.2.1 (by exact SK.out) HE.out.2.2.2.2 HE.out.1)
            clear HE HM HO
            go_wp2
            go_roundw
            case rel => exact (FIN _ OW.out).out
            case measure => exact MEA.out
          · have c3b : Op.bytesLess k.toList text.toList = true := by
              cases hq : kl k text
              · exact absurd (V.kl_tri hq c2) c3
              · exact hq
            have SK := hid (show vk ≠ 0 → kl text k = true → r ≠ emp ∧ kl k r = false from fun _ h => by rw [c2] at h; cases h)
            clear c1 c2 c3
            have OW := hid (show OwnS l text r es (seen.push eb) from by rw [HEB.out]; exact own_skip HR.out.2 HE.out.2.1 HE.out.2.2.1 (by exact SK.out) HE.out.2.2.2.2 HE.out.1)
            clear HE HM HO
            go_wp2
            go_roundw
            case rel => exact (FIN _ OW.out).out
            case measure => exact MEA.out
        · have c2a : Op.bytesLess k.toList text.toList = false := V.kl_asymm c2
          have c2b : (k.toList == text.toList) = false := V.keq_false (Ne.symm (V.kl_ne c2))
          have N2 := hid c2
          by_cases c3 : r = emp
          · have c3b := V.emp_eq c3
            have N3 := hid c3
            clear c1 c2 c3
            have OW := hid (show OwnS l text k es (seen.push eb) from by rw [HEB.out]; exact own_take HR.out.2 HE.out.2.1 HE.out.2.2.1 HE.out.2.2.2.1 N1.out N2.out (.inl N3.out) HE.out.2.2.2.2 HE.out.1)
            clear HE HM HO
            go_wp2
            go_roundw
            case rel => exact (FIN _ OW.out).out
            case measure => exact MEA.out
          · have c3b := V.emp_ne c3
            cases c4 : kl k r
            · have c4b : Op.bytesLess k.toList r.toList = false := c4
              have SK := hid (show vk ≠ 0 → kl text k = true → r ≠ emp ∧ kl k r = false from fun _ _ => ⟨c3, c4⟩)
              clear c1 c2 c3 c4
              have OW := hid (show OwnS l text r es (seen.push eb) from by rw [HEB.out]; exact own_skip HR.out.2 HE.out.2.1 HE.out.2.2.1 (by exact SK.out) HE.out.2.2.2.2 HE.out.1)
              clear HE HM HO
              go_wp2
              go_roundw
              case rel => exact (FIN _ OW.out).out
              case measure => exact MEA.out
            · have c4b : Op.bytesLess k.toList r.toList = true := c4
              have N3 := hid c4
              clear c1 c2 c3 c4
              have OW := hid (show OwnS l text k es (seen.push eb) from by rw [HEB.out]; exact own_take HR.out.2 HE.out.2.1 HE.out.2.2.1 HE.out.2.2.2.1 N1.out N2.out (.inr N3.out) HE.out.2.2.2.2 HE.out.1)
              clear HE HM HO
              go_wp2
              go_roundw
              case rel => exact (FIN _ OW.out).out
              case measure => exact MEA.out
end
end Go.Proofs.YthcoigbkdbkojabGreat
namespace Go.Proofs.YthcoigbkdbkojabGreat
open V (kl)
structure VOk (L : KV) : Prop where
  asc : Asc L
  has : ∀ x ∈ L, x.2.k ≠ 0
  key : ∀ x ∈ L, isKeyB x.1 = true
def KOk (l : KV) : Prop := ∀ x ∈ l, isKeyB x.1 = true
theorem isKey_size {s : ByteArray} (h : isKeyB s = true) : 0 < s.size ∧ s.size ≤ 64 := of_decide_eq_true h
theorem isKey_ne {s : ByteArray} (h : isKeyB s = true) : s ≠ emp := by
  rintro rfl
  have := (isKey_size h).1
  cases this
theorem Asc.nodup {L : KV} (h : Asc L) : (L.map Prod.fst).Nodup := by
  unfold List.Nodup
  rw [List.pairwise_map]
  exact List.Pairwise.imp (fun h1 => V.kl_ne h1) h
def inB (text to k : ByteArray) : Prop := kl text k = true ∧ (to = emp ∨ kl to k = false)
def vis (L l : KV) (k : ByteArray) : Prop := (seenF L l k).k ≠ 0
def AbP (L l : KV) (text to r : ByteArray) : Prop := (r = emp ∨ (inB text to r ∧ vis L l r)) ∧ ∀ k, inB text to k → vis L l k → r ≠ emp ∧ kl k r = false
theorem AbP.unique {L l : KV} {text to r r' : ByteArray} (h : AbP L l text to r) (h' : AbP L l text to r') : r = r' := by
  rcases h.1 with e | ⟨e1, e2⟩
  · rcases h'.1 with e' | ⟨e1', e2'⟩
    · rw [e, e']
    · exact absurd e (h.2 _ e1' e2').1
  · have h1 := h'.2 _ e1 e2
    rcases h'.1 with e' | ⟨e1', e2'⟩
    · exact absurd e' h1.1
    · have h2 := h.2 _ e1' e2'
      exact V.kl_tri h1.2 h2.2
def vkOf (L : KV) (text : ByteArray) : ByteArray := ((nxt L text).map Prod.fst).getD emp
def AbI (L l : KV) (text t' : ByteArray) : Prop := (text = t' ∨ kl text t' = true) ∧ ∀ k, kl text k = true → kl t' k = false → ¬ vis L l k
theorem AbI.start (L l : KV) (text : ByteArray) : AbI L l text text := ⟨.inl rfl, fun k h1 h2 => by rw [h1] at h2; cases h2⟩
theorem AbI.up {L l : KV} {text t' k : ByteArray} (h : AbI L l text t') (hk : kl t' k = true) : kl text k = true := by
  rcases h.1 with e | e
  · rw [e]; exact hk
  · exact V.kl_trans e hk
theorem nxt_mem {L : KV} {text : ByteArray} {x : ByteArray × Vd} (h : nxt L text = some x) : x ∈ L ∧ kl text x.1 = true :=
  ⟨List.mem_of_find?_eq_some h, List.find?_some (p := fun y : ByteArray × Vd => kl text y.1) (l := L) h⟩
theorem nxt_first : ∀ {L : KV} {text : ByteArray}, Asc L → ∀ {y}, y ∈ L → kl text y.1 = true → ∃ x, nxt L text = some x ∧ kl y.1 x.1 = false
  | [], _, _, _, h, _ => by cases h
  | a :: L, text, ha, y, hy, hk => by
    unfold nxt
    rw [List.find?_cons]
    cases hq : kl text a.1
    · rcases List.mem_cons.1 hy with rfl | hy
      · rw [hq] at hk; cases hk
      · exact nxt_first (List.pairwise_cons.1 ha).2 hy hk
    · refine ⟨a, rfl, ?_⟩
      rcases List.mem_cons.1 hy with rfl | hy
      · exact V.kl_irrefl _
      · exact V.kl_asymm ((List.pairwise_cons.1 ha).1 y hy)
theorem vk_some {L : KV} (hL : VOk L) {text : ByteArray} (h : vkOf L text ≠ emp) : ∃ v, lkp (vkOf L text) L = some v ∧ v.k ≠ 0 ∧ kl text (vkOf L text) = true ∧ isKeyB (vkOf L text) = true := by
  unfold vkOf at h ⊢
  cases hq : nxt L text with
  | none => rw [hq] at h; exact absurd rfl h
  | some x =>
    obtain ⟨h1, h2⟩ := nxt_mem hq
    exact ⟨x.2, mem_lkp hL.asc.nodup h1, hL.has x h1, h2, hL.key x h1⟩
theorem vk_first {L : KV} (hL : VOk L) {text k : ByteArray} {v : Vd} (h : lkp k L = some v) (hk : kl text k = true) : vkOf L text ≠ emp ∧ kl k (vkOf L text) = false := by
  obtain ⟨x, h1, h2⟩ := nxt_first hL.asc (lkp_mem h) hk
  unfold vkOf
  rw [h1]
  exact ⟨isKey_ne (hL.key x (nxt_mem h1).1), h2⟩
theorem vis_cases {L l : KV} {k : ByteArray} (h : vis L l k) : (∃ v, lkp k l = some v ∧ v.k ≠ 0) ∨ (lkp k l = none ∧ ∃ v, lkp k L = some v) := by
  unfold vis seenF at h
  cases hq : lkp k l with
  | some v => rw [hq] at h; exact .inl ⟨v, rfl, h⟩
  | none =>
    rw [hq] at h
    right
    refine ⟨rfl, ?_⟩
    cases hp : lkp k L with
    | none => rw [hp] at h; exact absurd rfl h
    | some v => exact ⟨v, rfl⟩
section
variable {L l : KV} {text t' to own : ByteArray}
theorem min_own (hL : VOk L) (ho : OwnP l text own) (hI : AbI L l text t') (hc : vkOf L t' = emp ∨ (own ≠ emp ∧ kl (vkOf L t') own = false)) : ∀ k, kl t' k = true → vis L l k → own ≠ emp ∧ kl k own = false := by
  intro k hk hv
  rcases vis_cases hv with ⟨v, h1, h2⟩ | ⟨-, v, h1⟩
  · exact ho.2 k v h1 h2 (hI.up hk)
  · obtain ⟨h3, h4⟩ := vk_first hL h1 hk
    rcases hc with hc | ⟨hc1, hc2⟩
    · exact absurd hc h3
    · refine ⟨hc1, ?_⟩
      cases hq : kl k own
      · rfl
      · rw [V.kl_le hq hc2] at h4; cases h4
theorem min_view (hL : VOk L) (ho : OwnP l text own) (hI : AbI L l text t') (hv0 : vkOf L t' ≠ emp) (hc : own = emp ∨ kl (vkOf L t') own = true) : ∀ k, kl t' k = true → vis L l k → vkOf L t' ≠ emp ∧ kl k (vkOf L t') = false := by
  intro k hk hv
  refine ⟨hv0, ?_⟩
  rcases vis_cases hv with ⟨v, h1, h2⟩ | ⟨-, v, h1⟩
  · obtain ⟨h3, h4⟩ := ho.2 k v h1 h2 (hI.up hk)
    rcases hc with hc | hc
    · exact absurd hc h3
    · cases hq : kl k (vkOf L t')
      · rfl
      · rw [V.kl_trans hq hc] at h4; cases h4
  · exact (vk_first hL h1 hk).2
theorem ab_exit (hI : AbI L l text t') (h1 : to ≠ emp) (h2 : kl t' to = false) : AbP L l text to emp := by
  refine ⟨.inl rfl, fun k hk hv => ?_⟩
  obtain ⟨k1, k2⟩ := hk
  have k3 : kl to k = false := k2.resolve_left h1
  cases hq : kl t' k
  · exact absurd hv (hI.2 k k1 hq)
  · rw [V.kl_le hq k3] at h2; cases h2
theorem ab_gt (hI : AbI L l text t') {key : ByteArray} (hm : ∀ k, kl t' k = true → vis L l k → key ≠ emp ∧ kl k key = false) (h1 : to ≠ emp) (h2 : kl to key = true) : AbP L l text to emp := by
  refine ⟨.inl rfl, fun k hk hv => ?_⟩
  obtain ⟨k1, k2⟩ := hk
  have k3 : kl to k = false := k2.resolve_left h1
  cases hq : kl t' k
  · exact absurd hv (hI.2 k k1 hq)
  · have h3 := (hm k hq hv).2
    rw [V.kl_le' k3 h2] at h3
    cases h3
theorem ab_all (hI : AbI L l text t') {key : ByteArray} (hm : ∀ k, kl t' k = true → vis L l k → key ≠ emp ∧ kl k key = false) (hk : key = emp ∨ (inB text to key ∧ vis L l key)) : AbP L l text to key := by
  refine ⟨hk, fun k hk hv => ?_⟩
  cases hq : kl t' k
  · exact absurd hv (hI.2 k hk.1 hq)
  · exact hm k hq hv
theorem ab_own (hL : VOk L) (ho : OwnP l text own) (hI : AbI L l text t') (hc : vkOf L t' = emp ∨ (own ≠ emp ∧ kl (vkOf L t') own = false)) (h1 : to = emp ∨ kl to own = false) : AbP L l text to own := by
  refine ab_all hI (min_own hL ho hI hc) ?_
  rcases ho.1 with e | ⟨v, h2, h3, h4⟩
  · exact .inl e
  · refine .inr ⟨⟨h4, h1⟩, ?_⟩
    unfold vis seenF
    rw [h2]
    exact h3
theorem ab_view (hL : VOk L) (ho : OwnP l text own) (hI : AbI L l text t') (hv0 : vkOf L t' ≠ emp) (hc : own = emp ∨ kl (vkOf L t') own = true) (hn : lkp (vkOf L t') l = none) (h1 : to = emp ∨ kl to (vkOf L t') = false) : AbP L l text to (vkOf L t') := by
  refine ab_all hI (min_view hL ho hI hv0 hc) (.inr ?_)
  obtain ⟨v, h2, h3, h4, h5⟩ := vk_some hL hv0
  refine ⟨⟨hI.up h4, h1⟩, ?_⟩
  unfold vis seenF
  rw [hn, h2]
  exact h3
theorem ab_next (hL : VOk L) (ho : OwnP l text own) (hI : AbI L l text t') (hv0 : vkOf L t' ≠ emp) (hc : own = emp ∨ kl (vkOf L t') own = true) {v : Vd} (hn : lkp (vkOf L t') l = some v) : AbI L l text (vkOf L t') := by
  obtain ⟨v2, h2, h3, h4, h5⟩ := vk_some hL hv0
  refine ⟨.inr (hI.up h4), fun k h6 h7 hv => ?_⟩
  cases hq : kl t' k
  · exact hI.2 k h6 hq hv
  · have h8 := (min_view hL ho hI hv0 hc k hq hv).2
    have e := V.kl_tri h8 h7
    subst e
    unfold vis seenF at hv
    rw [hn] at hv
    have h9 := ho.2 _ v hn hv h6
    rcases hc with hc | hc
    · exact h9.1 hc
    · rw [hc] at h9; cases h9.2
def cntA (L : KV) (text : ByteArray) : Nat := L.countP (fun x => kl text x.1)
theorem cnt_less (hL : VOk L) (hv0 : vkOf L t' ≠ emp) : cntA L (vkOf L t') < cntA L t' := by
  obtain ⟨v, h2, h3, h4, h5⟩ := vk_some hL hv0
  unfold cntA
  refine V.count_less (x := (vkOf L t', v)) (fun y _ hy => V.kl_trans h4 hy) (lkp_mem h2) h4 ?_
  exact V.kl_irrefl _
end
end Go.Proofs.YthcoigbkdbkojabGreat
