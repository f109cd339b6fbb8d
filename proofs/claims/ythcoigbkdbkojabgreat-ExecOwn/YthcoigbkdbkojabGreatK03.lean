import Derived.Test.YthcoigbkdbkojabGreatK02
import Derived.Shelf.SlGeneric
import Derived.Shelf.SlIter.Nil
import Derived.Shelf.SortM.Plain
import Derived.Shelf.SortM.SortNone
import Derived.Shelf.Strconv.Clone
import Derived.Ground.GgzProg
import Derived.Ground.SlgmProg
import Derived.Ground.NamesProg
set_option maxRecDepth 100000
namespace Go.Proofs.YthcoigbkdbkojabGreat.V
open Go.RowKit
structure Tb (cm : Value × Value) (w : World) (p : Nat) (t : Tr) : Prop where
  blk : w.heap[p]? = some (.cells #[t.ptr, .int .i64 t.n, cm.1, cm.2] 114 (0, 0))
  at_ : t.At 154 w
  rs : Rises t.toL
  nd : t.bs.Nodup
theorem Tb.kept {cm : Value × Value} {w w' : World} {p : Nat} {t : Tr} {S : Nat → Prop} (h : Tb cm w p t) (hk : Kept S w w') (h0 : ¬ S p) (h1 : ∀ i ∈ t.bs, ¬ S i) : Tb cm w' p t :=
  ⟨hp_kept h.blk hk h0, h.at_.kept hk h1, h.rs, h.nd⟩
theorem Tb.below {cm : Value × Value} {w w' : World} {p : Nat} {t : Tr} (h : Tb cm w p t) (hk : Below w.heap.size w w') : Tb cm w' p t :=
  h.kept (Kept.ofBelow hk) (fun e => e) (fun _ _ e => e)
theorem bs_mem {t : Tr} {i : Nat} (h : i ∈ t.bs) : ∃ k v, (i, k, v) ∈ t.toL := by
  unfold Tr.bs blks at h
  obtain ⟨⟨a, k, v⟩, h1, rfl⟩ := List.mem_map.1 h
  exact ⟨k, v, h1⟩
theorem Tb.apart {cm : Value × Value} {w : World} {p : Nat} {t : Tr} (h : Tb cm w p t) : p ∉ t.bs := by
  intro hm
  obtain ⟨k, v, hm⟩ := bs_mem hm
  obtain ⟨a, b, c, e⟩ := h.at_.mem p k v hm
  have := h.blk
  rw [e] at this
  cases this
def optP : Option En → Value
  | none => .pointer none
  | some e => .pointer (some ⟨e.1, 0, none⟩)
def geqE (text : ByteArray) (l : List En) : Option En := l.find? (fun e => !kl e.2.1 text)
def gtrE (text : ByteArray) (l : List En) : Option En := l.find? (fun e => kl text e.2.1)
theorem find_low {p : En → Bool} {l r : List En} {c : En} (h : p c = true) (o : Option En) : ((l ++ c :: r).find? p).or o = (l.find? p).or (some c) := by
  rw [List.find?_append, List.find?_cons, h]
  cases l.find? p <;> rfl
theorem find_high {p : En → Bool} {l r : List En} {c : En} (h : p c = false) (hl : ∀ e ∈ l, p e = true → p c = true) (o : Option En) : ((l ++ c :: r).find? p).or o = (r.find? p).or o := by
  have : l.find? p = none := by
    rw [List.find?_eq_none]
    intro e he hp
    rw [hl e he hp] at h
    cases h
  rw [List.find?_append, List.find?_cons, h, this]
  rfl
theorem gtr_eq (a b : ByteArray) : (!Op.bytesLess a.toList b.toList && !(a.toList == b.toList)) = kl b a := by
  cases h1 : kl a b
  · cases h2 : kl b a
    · have := kl_tri h1 h2
      subst this
      simp
    · have h1' : Op.bytesLess a.toList b.toList = false := h1
      rw [h1', keq_false (kl_ne h2).symm]; rfl
  · have h1' : Op.bytesLess a.toList b.toList = true := h1
    rw [h1', kl_asymm h1]; rfl
theorem cells4 {w : World} {p : Nat} {a b c d : Value} {t : TypeId} (h : w.heap[p]? = some (.cells #[a, b, c, d] t (0, 0))) : w.cell? ⟨p, 0, none⟩ = some a ∧ w.cell? ⟨p, 1, none⟩ = some b ∧ w.cell? ⟨p, 2, none⟩ = some c ∧ w.cell? ⟨p, 3, none⟩ = some d := by
  refine ⟨?_, ?_, ?_, ?_⟩ <;> (rw [cell_of_row w p _ _ _ _ h]; rfl)
abbrev Bx (w : World) (g : Nat) (s : ByteArray) : Prop := w.heap[g]? = some (.cells #[.string s] 9 (0, 0))
set_option maxHeartbeats 800000 in
theorem far42 (g : Nat) (k text : ByteArray) (w : World) (h : Bx w g text) : Calls Tryz.prog 162 #[.string k, .pointer (some ⟨g, 0, none⟩)] w fun x w' => x = .returned (.bool (kl text k)) ∧ w' = w := by
  have c0 := cells1 h
  have H := hid (gtr_eq k text)
  clear h
  go_enter Tryz.func162, Tryz.ntmps162
  go_wp2
  go_ret
  exact ⟨by rw [← H.out]; rfl, rfl⟩
set_option maxHeartbeats 800000 in
theorem far45 (g : Nat) (k text : ByteArray) (w : World) (h : Bx w g text) : Calls Tryz.prog 135 #[.string k, .pointer (some ⟨g, 0, none⟩)] w fun x w' => x = .returned (.bool (!kl k text)) ∧ w' = w := by
  have c0 := cells1 h
  clear h
  go_enter Tryz.func135, Tryz.ntmps135
  go_wp2
  go_ret
  exact ⟨rfl, rfl⟩
set_option maxHeartbeats 800000 in
theorem least_nil (f : Value) (w : World) : Calls Tryz.prog 134 #[.pointer none, f] w fun x w' => x = .returned (.pointer none) ∧ w' = w := by
  go_enter Tryz.func134, Tryz.ntmps134
  go_wp2
  go_ret
  exact ⟨rfl, rfl⟩
theorem far_mono42 {l r : List En} {c : En} {text : ByteArray} (h : Rises (l ++ c :: r)) : ∀ e ∈ l, kl text e.2.1 = true → kl text c.2.1 = true := fun e he hp => kl_trans hp (h.lo e he)
theorem far_mono45 {l r : List En} {c : En} {text : ByteArray} (h : Rises (l ++ c :: r)) : ∀ e ∈ l, (!kl e.2.1 text) = true → (!kl c.2.1 text) = true := fun e he hp => by
  cases h2 : kl c.2.1 text
  · rfl
  · rw [kl_trans (h.lo e he) h2] at hp; cases hp
set_option maxHeartbeats 2000000 in
theorem least42 {cm : Value × Value} (p g : Nat) (text : ByteArray) (t : Tr) (w : World) (ht : Tb cm w p t) (hg : Bx w g text) :
    Calls Tryz.prog 134 #[.pointer (some ⟨p, 0, none⟩), .func (.func 162) #[] #[.pointer (some ⟨g, 0, none⟩)]] w fun x w' => x = .returned (optP (gtrE text t.toL)) ∧ ∃ n, w' = w.drewN n := by
  obtain ⟨c0, c1, -, -⟩ := cells4 ht.blk
  generalize hP : (fun (x : Ending) (w' : World) => x = .returned (optP (gtrE text t.toL)) ∧ ∃ n, w' = w.drewN n) = P
  have HP := hid hP
  have HT := hid (And.intro ht hg)
  clear hP ht hg c1
  go_enter Tryz.func134, Tryz.ntmps134
  go_wp2
  go_loopw [5, 6] (fun f i wr => ∃ (s : Tr) (o : Option En), f = optP o ∧ i = s.ptr ∧ Hid (wr.heap = w.heap ∧ (∃ n, wr = w.drewN n) ∧ s.At 154 wr ∧ Rises s.toL ∧ (s.toL.find? (fun e => kl text e.2.1)).or o = gtrE text t.toL)) (fun _ i wr => hOf wr i)
  case atStart => exact ⟨t, none, rfl, rfl, hid ⟨rfl, ⟨0, rfl⟩, HT.out.1.at_, HT.out.1.rs, by simp [gtrE]⟩⟩
  case round =>
    obtain ⟨s, o, rfl, rfl, hr⟩ := hrel
    cases s with
    | nil =>
      show Code.wp _ _ _ { tmps := #[_, _, _, _, _, _, .pointer none, _, _, _, _, _, _, _, _, _, _, _, _, _, _, _, _, _, _, _, _, _, _, _, _], defers := _ } _
      go_wp2
      rw [← HP.out]
      refine ⟨?_, hr.out.2.1⟩
      have := hr.out.2.2.2.2
      simp only [Tr.toL, List.find?_nil, Option.none_or] at this
      rw [← this]
      rfl
    | node b k v l r =>
      show Code.wp _ _ _ { tmps := #[_, _, _, _, _, _, .pointer (some ⟨b, 0, none⟩), _, _, _, _, _, _, _, _, _, _, _, _, _, _, _, _, _, _, _, _, _, _, _, _], defers := _ } _
      have d0 := (cells5 hr.out.2.2.1.1).1
      have d2 := (cells5 hr.out.2.2.1.1).2.2.1
      have d3 := (cells5 hr.out.2.2.1.1).2.2.2.1
      have hh : hOf wr (.pointer (some ⟨b, 0, none⟩)) = (Tr.node b k v l r).ht := hOf_at hr.out.2.2.1
      have e1 : hOf wr l.ptr = l.ht := hOf_at hr.out.2.2.1.2.1
      have e2 : hOf wr r.ptr = r.ht := hOf_at hr.out.2.2.1.2.2
      have HM := hid (show hOf wr l.ptr < hOf wr (.pointer (some ⟨b, 0, none⟩)) ∧ hOf wr r.ptr < hOf wr (.pointer (some ⟨b, 0, none⟩)) from by
        rw [hh, e1, e2]
        simp only [Tr.ht]
        omega)
      clear hh e1 e2
      have FF := hid (far42 g k text wr (by rw [Bx, hr.out.1]; exact HT.out.2))
      cases hf : (kl text k)
      · have F2 := hid (hf ▸ FF.out)
        have HF := hid hf
        clear FF hf
        go_wp2_with (
          go_at_call 162
          refine F2.out.mono ?_
          rintro e w1 ⟨rfl, e1⟩
          rw [e1]
          clear e1 w1)
        go_roundw
        case rel =>
          obtain ⟨q1, q2, q3, q4, q5⟩ := hr.out
          have q4' : Rises (l.toL ++ (b, k, v) :: r.toL) := q4
          refine ⟨r, o, rfl, rfl, hid ⟨q1, q2, q3.2.2, q4'.right.tail, ?_⟩⟩
          rw [← q5]
          exact (find_high (p := fun e : En => kl text e.2.1) (c := (b, k, v)) HF.out (far_mono42 q4') o).symm
        case measure => exact HM.out.2
      · have F2 := hid (hf ▸ FF.out)
        have HF := hid hf
        clear FF hf
        go_wp2_with (
          go_at_call 162
          refine F2.out.mono ?_
          rintro e w1 ⟨rfl, e1⟩
          rw [e1]
          clear e1 w1)
        go_quiet (fail)
        go_wp2
        go_roundw
        case rel =>
          obtain ⟨q1, q2, q3, q4, q5⟩ := hr.out
          have q4' : Rises (l.toL ++ (b, k, v) :: r.toL) := q4
          obtain ⟨n0, hn0⟩ := q2
          refine ⟨l, some (b, k, v), rfl, rfl, hid ⟨q1, ⟨n0 + nq, by rw [hn0, World.drewN_drewN]⟩, Tr.At.heap (w := wr) (w' := wr.drewN nq) rfl q3.2.1, q4'.left, ?_⟩⟩
          rw [← q5]
          exact (find_low (p := fun e : En => kl text e.2.1) (c := (b, k, v)) HF.out o).symm
        case measure => exact HM.out.1
set_option maxHeartbeats 2000000 in
theorem least45 {cm : Value × Value} (p g : Nat) (text : ByteArray) (t : Tr) (w : World) (ht : Tb cm w p t) (hg : Bx w g text) :
    Calls Tryz.prog 134 #[.pointer (some ⟨p, 0, none⟩), .func (.func 135) #[] #[.pointer (some ⟨g, 0, none⟩)]] w fun x w' => x = .returned (optP (geqE text t.toL)) ∧ ∃ n, w' = w.drewN n := by
  obtain ⟨c0, c1, -, -⟩ := cells4 ht.blk
  generalize hP : (fun (x : Ending) (w' : World) => x = .returned (optP (geqE text t.toL)) ∧ ∃ n, w' = w.drewN n) = P
  have HP := hid hP
  have HT := hid (And.intro ht hg)
  clear hP ht hg c1
  go_enter Tryz.func134, Tryz.ntmps134
  go_wp2
  go_loopw [5, 6] (fun f i wr => ∃ (s : Tr) (o : Option En), f = optP o ∧ i = s.ptr ∧ Hid (wr.heap = w.heap ∧ (∃ n, wr = w.drewN n) ∧ s.At 154 wr ∧ Rises s.toL ∧ (s.toL.find? (fun e => !kl e.2.1 text)).or o = geqE text t.toL)) (fun _ i wr => hOf wr i)
  case atStart => exact ⟨t, none, rfl, rfl, hid ⟨rfl, ⟨0, rfl⟩, HT.out.1.at_, HT.out.1.rs, by simp [geqE]⟩⟩
  case round =>
    obtain ⟨s, o, rfl, rfl, hr⟩ := hrel
    cases s with
    | nil =>
      show Code.wp _ _ _ { tmps := #[_, _, _, _, _, _, .pointer none, _, _, _, _, _, _, _, _, _, _, _, _, _, _, _, _, _, _, _, _, _, _, _, _], defers := _ } _
      go_wp2
      rw [← HP.out]
      refine ⟨?_, hr.out.2.1⟩
      have := hr.out.2.2.2.2
      simp only [Tr.toL, List.find?_nil, Option.none_or] at this
      rw [← this]
      rfl
    | node b k v l r =>
      show Code.wp _ _ _ { tmps := #[_, _, _, _, _, _, .pointer (some ⟨b, 0, none⟩), _, _, _, _, _, _, _, _, _, _, _, _, _, _, _, _, _, _, _, _, _, _, _, _], defers := _ } _
      have d0 := (cells5 hr.out.2.2.1.1).1
      have d2 := (cells5 hr.out.2.2.1.1).2.2.1
      have d3 := (cells5 hr.out.2.2.1.1).2.2.2.1
      have hh : hOf wr (.pointer (some ⟨b, 0, none⟩)) = (Tr.node b k v l r).ht := hOf_at hr.out.2.2.1
      have e1 : hOf wr l.ptr = l.ht := hOf_at hr.out.2.2.1.2.1
      have e2 : hOf wr r.ptr = r.ht := hOf_at hr.out.2.2.1.2.2
      have HM := hid (show hOf wr l.ptr < hOf wr (.pointer (some ⟨b, 0, none⟩)) ∧ hOf wr r.ptr < hOf wr (.pointer (some ⟨b, 0, none⟩)) from by
        rw [hh, e1, e2]
        simp only [Tr.ht]
        omega)
      clear hh e1 e2
      have FF := hid (far45 g k text wr (by rw [Bx, hr.out.1]; exact HT.out.2))
      cases hf : (!kl k text)
      · have F2 := hid (hf ▸ FF.out)
        have HF := hid hf
        clear FF hf
        go_wp2_with (
          go_at_call 135
          refine F2.out.mono ?_
          rintro e w1 ⟨rfl, e1⟩
          rw [e1]
          clear e1 w1)
        go_roundw
        case rel =>
          obtain ⟨q1, q2, q3, q4, q5⟩ := hr.out
          have q4' : Rises (l.toL ++ (b, k, v) :: r.toL) := q4
          refine ⟨r, o, rfl, rfl, hid ⟨q1, q2, q3.2.2, q4'.right.tail, ?_⟩⟩
          rw [← q5]
          exact (find_high (p := fun e : En => !kl e.2.1 text) (c := (b, k, v)) HF.out (far_mono45 q4') o).symm
        case measure => exact HM.out.2
      · have F2 := hid (hf ▸ FF.out)
        have HF := hid hf
        clear FF hf
        go_wp2_with (
          go_at_call 135
          refine F2.out.mono ?_
          rintro e w1 ⟨rfl, e1⟩
          rw [e1]
          clear e1 w1)
        go_quiet (fail)
        go_wp2
        go_roundw
        case rel =>
          obtain ⟨q1, q2, q3, q4, q5⟩ := hr.out
          have q4' : Rises (l.toL ++ (b, k, v) :: r.toL) := q4
          obtain ⟨n0, hn0⟩ := q2
          refine ⟨l, some (b, k, v), rfl, rfl, hid ⟨q1, ⟨n0 + nq, by rw [hn0, World.drewN_drewN]⟩, Tr.At.heap (w := wr) (w' := wr.drewN nq) rfl q3.2.1, q4'.left, ?_⟩⟩
          rw [← q5]
          exact (find_low (p := fun e : En => !kl e.2.1 text) (c := (b, k, v)) HF.out o).symm
        case measure => exact HM.out.1
end Go.Proofs.YthcoigbkdbkojabGreat.V
/-
  DERIVED: THE SHELF's CONTRACTS AT THIS DUMP, IN PLAIN WORDS (tools/lay-plain.mjs out of 'YthcoigbkdbkojabGreatLaysRaw.lean', which tools/lay-shelf.mjs wrote): THE SAME DECLARATIONS UNDER THE SAME NAMES: 'import', 'namespace', 'open', 'def', 'theorem' AND NOTHING ELSE: no command of the shelf's: FOR A HAND-IN. Each laying: the table of numbers ('.._ren') and one theorem, a field a fact of the dump's own or the kernel's comparison; each contract: ONE APPLICATION.
-/
namespace Go.Proofs
open Go.Shelf
def Tryz.keys100_ren : Go.Shelf.Ren := ⟨fun | 7 => 79 | 10 => 108 | n => n, fun | 23 => 74 | 26 => 9 | 3 => 29 | 28 => 148 | 0 => 0 | 27 => 147 | 33 => 64 | 4 => 4 | n => n, fun | n => n⟩
theorem Tryz.keys100 : Go.Proofs.SlLaysZ.n7 Tryz.prog Tryz.keys100_ren := {
  mixed := by kernel_rfl
  f7 := ⟨Tryz.f79.name, by decide, Tryz.func79.trans (congrArg some (by kernel_rfl))⟩
  f10 := ⟨Tryz.f108.name, by decide, Tryz.func108.trans (congrArg some (by kernel_rfl))⟩
  t0 := Tryz.underlying0
  a0 := Tryz.isAgg0
  z0 := Tryz.sizeOf0
  v0 := Tryz.zeroValue0
  t4 := Tryz.underlying4
  a4 := Tryz.isAgg4
  z4 := Tryz.sizeOf4
  v4 := Tryz.zeroValue4
  t23 := Tryz.underlying74
  a23 := Tryz.isAgg74
  z23 := Tryz.sizeOf74
  v23 := Tryz.zeroValue74
  t26 := Tryz.underlying9
  a26 := Tryz.isAgg9
  z26 := Tryz.sizeOf9
  v26 := Tryz.zeroValue9
  t27 := Tryz.underlying147
  a27 := Tryz.isAgg147
  z27 := Tryz.sizeOf147
  v27 := Tryz.zeroValue147
  t28 := Tryz.underlying148
  a28 := Tryz.isAgg148
  z28 := Tryz.sizeOf148
  v28 := Tryz.zeroValue148
  t33 := Tryz.underlying64
  a33 := Tryz.isAgg64
  z33 := Tryz.sizeOf64
  v33 := Tryz.zeroValue64 }
def Tryz.sorted99_ren : Go.Shelf.Ren := ⟨fun | 6 => 78 | 8 => 106 | 9 => 107 | 11 => 131 | 13 => 133 | 12 => 132 | 23 => 160 | 24 => 161 | 14 => 151 | 15 => 152 | 16 => 153 | 17 => 154 | 18 => 155 | 19 => 156 | 20 => 157 | 21 => 158 | 22 => 159 | 25 => 174 | 26 => 175 | 27 => 176 | 28 => 177 | 29 => 178 | 30 => 179 | 31 => 183 | n => n, fun | 26 => 9 | 28 => 148 | 24 => 145 | 0 => 0 | 3 => 3 | 37 => 197 | 48 => 227 | 50 => 182 | 4 => 4 | 40 => 219 | 39 => 218 | 45 => 224 | 5 => 5 | 9 => 9 | 51 => 233 | 55 => 138 | 57 => 239 | 58 => 240 | 33 => 64 | n => n, fun | n => n⟩
theorem Tryz.sorted99 : Go.Proofs.SlLaysZ.n6 Tryz.prog Tryz.sorted99_ren := {
  mixed := by kernel_rfl
  f6 := ⟨Tryz.f78.name, by decide, Tryz.func78.trans (congrArg some (by kernel_rfl))⟩
  f8 := ⟨Tryz.f106.name, by decide, Tryz.func106.trans (congrArg some (by kernel_rfl))⟩
  f11 := ⟨Tryz.f131.name, by decide, Tryz.func131.trans (congrArg some (by kernel_rfl))⟩
  t0 := Tryz.underlying0
  a0 := Tryz.isAgg0
  z0 := Tryz.sizeOf0
  v0 := Tryz.zeroValue0
  t24 := Tryz.underlying145
  a24 := Tryz.isAgg145
  z24 := Tryz.sizeOf145
  v24 := Tryz.zeroValue145
  t26 := Tryz.underlying9
  a26 := Tryz.isAgg9
  z26 := Tryz.sizeOf9
  v26 := Tryz.zeroValue9
  t28 := Tryz.underlying148
  a28 := Tryz.isAgg148
  z28 := Tryz.sizeOf148
  v28 := Tryz.zeroValue148
  i26 := by kernel_rfl }
def Tryz.sort137_ren : Go.Shelf.Ren := ⟨fun | 6 => 107 | 8 => 133 | 9 => 132 | 19 => 160 | 20 => 161 | 21 => 151 | 22 => 152 | 23 => 153 | 24 => 154 | 25 => 155 | 26 => 156 | 27 => 157 | 28 => 158 | 29 => 159 | 36 => 174 | 31 => 175 | 32 => 176 | 37 => 177 | 38 => 178 | 39 => 179 | 41 => 183 | n => n, fun | 27 => 145 | 29 => 9 | 3 => 3 | 32 => 197 | 26 => 145 | 0 => 0 | 44 => 227 | 46 => 182 | 4 => 4 | 36 => 219 | 35 => 218 | 41 => 224 | 5 => 5 | 9 => 9 | 53 => 233 | 57 => 138 | 63 => 239 | 64 => 240 | n => n, fun | n => n⟩
theorem Tryz.sort137 : Go.Proofs.SlLaysM.n6 Tryz.prog Tryz.sort137_ren := {
  mixed := by kernel_rfl
  f6 := ⟨Tryz.f107.name, by decide, Tryz.func107.trans (congrArg some (by kernel_rfl))⟩
  f8 := Tryz.func133.trans (congrArg some (by kernel_rfl))
  f9 := ⟨Tryz.f132.name, by decide, Tryz.func132.trans (congrArg some (by kernel_rfl))⟩
  f19 := Tryz.func160.trans (congrArg some (by kernel_rfl))
  f20 := Tryz.func161.trans (congrArg some (by kernel_rfl))
  f21 := ⟨Tryz.f151.name, by decide, Tryz.func151.trans (congrArg some (by kernel_rfl))⟩
  f22 := ⟨Tryz.f152.name, by decide, Tryz.func152.trans (congrArg some (by kernel_rfl))⟩
  f23 := ⟨Tryz.f153.name, by decide, Tryz.func153.trans (congrArg some (by kernel_rfl))⟩
  f24 := ⟨Tryz.f154.name, by decide, Tryz.func154.trans (congrArg some (by kernel_rfl))⟩
  f25 := ⟨Tryz.f155.name, by decide, Tryz.func155.trans (congrArg some (by kernel_rfl))⟩
  f26 := ⟨Tryz.f156.name, by decide, Tryz.func156.trans (congrArg some (by kernel_rfl))⟩
  f27 := ⟨Tryz.f157.name, by decide, Tryz.func157.trans (congrArg some (by kernel_rfl))⟩
  f28 := ⟨Tryz.f158.name, by decide, Tryz.func158.trans (congrArg some (by kernel_rfl))⟩
  f29 := ⟨Tryz.f159.name, by decide, Tryz.func159.trans (congrArg some (by kernel_rfl))⟩
  f31 := Tryz.func175.trans (congrArg some (by kernel_rfl))
  f32 := Tryz.func176.trans (congrArg some (by kernel_rfl))
  f36 := ⟨Tryz.f174.name, by decide, Tryz.func174.trans (congrArg some (by kernel_rfl))⟩
  f37 := ⟨Tryz.f177.name, by decide, Tryz.func177.trans (congrArg some (by kernel_rfl))⟩
  f38 := ⟨Tryz.f178.name, by decide, Tryz.func178.trans (congrArg some (by kernel_rfl))⟩
  f39 := ⟨Tryz.f179.name, by decide, Tryz.func179.trans (congrArg some (by kernel_rfl))⟩
  f41 := ⟨Tryz.f183.name, by decide, Tryz.func183.trans (congrArg some (by kernel_rfl))⟩
  t0 := Tryz.underlying0
  a0 := Tryz.isAgg0
  z0 := Tryz.sizeOf0
  v0 := Tryz.zeroValue0
  t3 := Tryz.underlying3
  a3 := Tryz.isAgg3
  z3 := Tryz.sizeOf3
  v3 := Tryz.zeroValue3
  t4 := Tryz.underlying4
  a4 := Tryz.isAgg4
  z4 := Tryz.sizeOf4
  v4 := Tryz.zeroValue4
  t5 := Tryz.underlying5
  a5 := Tryz.isAgg5
  z5 := Tryz.sizeOf5
  v5 := Tryz.zeroValue5
  t9 := Tryz.underlying9
  a9 := Tryz.isAgg9
  z9 := Tryz.sizeOf9
  v9 := Tryz.zeroValue9
  t26 := Tryz.underlying145
  a26 := Tryz.isAgg145
  z26 := Tryz.sizeOf145
  v26 := Tryz.zeroValue145
  t27 := Tryz.underlying145
  a27 := Tryz.isAgg145
  z27 := Tryz.sizeOf145
  v27 := Tryz.zeroValue145
  t29 := Tryz.underlying9
  a29 := Tryz.isAgg9
  z29 := Tryz.sizeOf9
  v29 := Tryz.zeroValue9
  t32 := Tryz.underlying197
  a32 := Tryz.isAgg197
  z32 := Tryz.sizeOf197
  v32 := Tryz.zeroValue197
  t35 := Tryz.underlying218
  a35 := Tryz.isAgg218
  z35 := Tryz.sizeOf218
  v35 := Tryz.zeroValue218
  t36 := Tryz.underlying219
  a36 := Tryz.isAgg219
  z36 := Tryz.sizeOf219
  v36 := Tryz.zeroValue219
  t41 := Tryz.underlying224
  a41 := Tryz.isAgg224
  z41 := Tryz.sizeOf224
  v41 := Tryz.zeroValue224
  t44 := Tryz.underlying227
  a44 := Tryz.isAgg227
  z44 := Tryz.sizeOf227
  v44 := Tryz.zeroValue227
  t46 := Tryz.underlying182
  a46 := Tryz.isAgg182
  z46 := Tryz.sizeOf182
  v46 := Tryz.zeroValue182
  t53 := Tryz.underlying233
  a53 := Tryz.isAgg233
  z53 := Tryz.sizeOf233
  v53 := Tryz.zeroValue233
  t57 := Tryz.underlying138
  a57 := Tryz.isAgg138
  z57 := Tryz.sizeOf138
  v57 := Tryz.zeroValue138
  t63 := Tryz.underlying239
  a63 := Tryz.isAgg239
  z63 := Tryz.sizeOf239
  v63 := Tryz.zeroValue239
  t64 := Tryz.underlying240
  a64 := Tryz.isAgg240
  z64 := Tryz.sizeOf240
  v64 := Tryz.zeroValue240 }
def Tryz.laysM316_ren : Go.Shelf.Ren := ⟨fun | 316 => 109 | n => n, fun | 9 => 9 | 3 => 3 | 4 => 4 | 37 => 53 | 0 => 0 | 127 => 198 | 5 => 5 | n => n, fun | n => n⟩
theorem Tryz.laysM316 : Go.Proofs.LaysM.n316 Tryz.prog Tryz.laysM316_ren := {
  mixed := by kernel_rfl
  f316 := Tryz.func109.trans (congrArg some (by kernel_rfl))
  t0 := Tryz.underlying0
  a0 := Tryz.isAgg0
  z0 := Tryz.sizeOf0
  v0 := Tryz.zeroValue0
  t3 := Tryz.underlying3
  a3 := Tryz.isAgg3
  z3 := Tryz.sizeOf3
  v3 := Tryz.zeroValue3
  t4 := Tryz.underlying4
  a4 := Tryz.isAgg4
  z4 := Tryz.sizeOf4
  v4 := Tryz.zeroValue4
  t9 := Tryz.underlying9
  a9 := Tryz.isAgg9
  z9 := Tryz.sizeOf9
  v9 := Tryz.zeroValue9
  t37 := Tryz.underlying53
  a37 := Tryz.isAgg53
  z37 := Tryz.sizeOf53
  v37 := Tryz.zeroValue53
  t127 := Tryz.underlying198
  a127 := Tryz.isAgg198
  z127 := Tryz.sizeOf198
  v127 := Tryz.zeroValue198
  t5 := Tryz.underlying5
  a5 := Tryz.isAgg5
  z5 := Tryz.sizeOf5
  v5 := Tryz.zeroValue5
  i0 := by kernel_rfl
  i3 := by kernel_rfl
  i4 := by kernel_rfl
  i5 := by kernel_rfl
  i9 := by kernel_rfl
  i37 := by kernel_rfl
  i127 := by kernel_rfl }
end Go.Proofs
namespace Go.Proofs.YthcoigbkdbkojabGreat.V
open Go.RowKit
theorem below_new (w : World) (o : Obj) : Below w.heap.size w (w.alloc o) := (Below.refl _ _).alloc (Nat.le_refl _) _
theorem blw_drewN {B n : Nat} {w w' : World} (h : Below B w w') : Below B w (w'.drewN n) := ⟨h.os, h.tape, h.output, h.size, h.block⟩
theorem below_on {w0 w w1 : World} (h0 : Below w0.heap.size w0 w) (h : Below w.heap.size w w1) : Below w0.heap.size w0 w1 := h0.trans (h.mono h0.size)
theorem sliteClone_any (s : ByteArray) (w : World) (hlim : s.size ≤ 281474976710656) :
    Calls Tryz.prog 109 #[.string s] w fun e w' => e = .returned (.string s) ∧ Below w.heap.size w w' := Any.stringslite_Clone Tryz.laysM316 s w hlim
set_option maxHeartbeats 800000 in
theorem clone_any (s : ByteArray) (w : World) (hlim : s.size ≤ 281474976710656) :
    Calls Tryz.prog 80 #[.string s] w fun e w' => e = .returned (.string s) ∧ Below w.heap.size w w' := by
  have H := hid (sliteClone_any s w hlim)
  clear hlim
  go_enter Tryz.func80, Tryz.ntmps80
  go_wp2_with (go_at_call 109; refine H.out.mono ?_; rintro e w' ⟨rfl, hb⟩; have HB := hid hb; clear hb)
  go_ret
  exact ⟨rfl, HB.out⟩
def TO (w : World) (o : Option Addr) (t : Tr) : Prop := (o = none ∧ t = .nil) ∨ ∃ p cm, o = some ⟨p, 0, none⟩ ∧ Tb cm w p t
theorem TO.rs {w : World} {o : Option Addr} {t : Tr} (h : TO w o t) : Rises t.toL := by
  rcases h with ⟨_, rfl⟩ | ⟨p, _, _, h2⟩
  · exact List.Pairwise.nil
  · exact h2.rs
theorem TO.at_ {w : World} {o : Option Addr} {t : Tr} (h : TO w o t) : t.At 154 w := by
  rcases h with ⟨_, rfl⟩ | ⟨p, _, _, h2⟩
  · trivial
  · exact h2.at_
set_option maxHeartbeats 800000 in
theorem geq_any (o : Option Addr) (text : ByteArray) (t : Tr) (w : World) (ht : TO w o t) :
    Calls Tryz.prog 110 #[.pointer o, .string text] w fun x w' => x = .returned (optP (geqE text t.toL)) ∧ Below w.heap.size w w' := by
  obtain ⟨W, hW⟩ : ∃ W, W = w.alloc (.cells #[.string text] 9) := ⟨_, rfl⟩
  have L1 := hid (show Calls Tryz.prog 134 #[.pointer o, .func (.func 135) #[] #[.pointer (some ⟨w.heap.size, 0, none⟩)]] W (fun x w' => x = .returned (optP (geqE text t.toL)) ∧ Below w.heap.size w w') from by
    rw [hW]
    have hb := below_new w (.cells #[.string text] 9)
    rcases ht with ⟨rfl, rfl⟩ | ⟨p, cm, rfl, ht⟩
    · refine (least_nil _ _).mono ?_
      rintro x w' ⟨rfl, rfl⟩
      exact ⟨rfl, hb⟩
    · refine (least45 p w.heap.size text t _ (ht.below hb) (hp_new w _)).mono ?_
      rintro x w' ⟨rfl, n, rfl⟩
      exact ⟨rfl, blw_drewN hb⟩)
  have HW := hid hW
  have hmf : ∀ (fn : Fn) (first cap : Array Value) (w : World), (Instr.makeFunc fn first cap).run Tryz.prog w = .ok (.func fn first cap) w := fun _ _ _ _ => rfl
  clear ht hW
  go_enter Tryz.func110, Tryz.ntmps110
  go_wp2_with (
    go_at_call 134
    rw [← HW.out]
    refine L1.out.mono ?_
    rintro e w1 ⟨rfl, hb⟩
    have HB := hid hb
    clear hb)
  go_ret
  exact ⟨rfl, HB.out⟩
set_option maxHeartbeats 800000 in
theorem gtr_any (o : Option Addr) (text : ByteArray) (t : Tr) (w : World) (ht : TO w o t) :
    Calls Tryz.prog 141 #[.pointer o, .string text] w fun x w' => x = .returned (optP (gtrE text t.toL)) ∧ Below w.heap.size w w' := by
  obtain ⟨W, hW⟩ : ∃ W, W = w.alloc (.cells #[.string text] 9) := ⟨_, rfl⟩
  have L1 := hid (show Calls Tryz.prog 134 #[.pointer o, .func (.func 162) #[] #[.pointer (some ⟨w.heap.size, 0, none⟩)]] W (fun x w' => x = .returned (optP (gtrE text t.toL)) ∧ Below w.heap.size w w') from by
    rw [hW]
    have hb := below_new w (.cells #[.string text] 9)
    rcases ht with ⟨rfl, rfl⟩ | ⟨p, cm, rfl, ht⟩
    · refine (least_nil _ _).mono ?_
      rintro x w' ⟨rfl, rfl⟩
      exact ⟨rfl, hb⟩
    · refine (least42 p w.heap.size text t _ (ht.below hb) (hp_new w _)).mono ?_
      rintro x w' ⟨rfl, n, rfl⟩
      exact ⟨rfl, blw_drewN hb⟩)
  have HW := hid hW
  have hmf : ∀ (fn : Fn) (first cap : Array Value) (w : World), (Instr.makeFunc fn first cap).run Tryz.prog w = .ok (.func fn first cap) w := fun _ _ _ _ => rfl
  clear ht hW
  go_enter Tryz.func141, Tryz.ntmps141
  go_wp2_with (
    go_at_call 134
    rw [← HW.out]
    refine L1.out.mono ?_
    rintro e w1 ⟨rfl, hb⟩
    have HB := hid hb
    clear hb)
  go_ret
  exact ⟨rfl, HB.out⟩
theorem geq_mem {key : ByteArray} {l : List En} {e : En} (h : geqE key l = some e) : e ∈ l := List.mem_of_find?_eq_some h
theorem gtr_mem {key : ByteArray} {l : List En} {e : En} (h : gtrE key l = some e) : e ∈ l := List.mem_of_find?_eq_some h
theorem ent_eq (key : ByteArray) : ∀ {l : List En}, Rises l → ent key l = (match geqE key l with | some e => if e.2.1 = key then some e else none | none => none)
  | [], _ => rfl
  | c :: l, h => by
    have ih := ent_eq key h.tail
    unfold ent geqE at *
    rw [List.find?_cons, List.find?_cons]
    cases h1 : kl c.2.1 key
    · have hn : ∀ e ∈ l, (e.2.1.toList == key.toList) = false := fun e he => by
        have := kl_le' h1 (h.hi e he)
        exact keq_false (fun e2 => by rw [e2, kl_irrefl] at this; cases this)
      by_cases h2 : c.2.1 = key
      · simp [h2]
      · have hf : l.find? (fun e => e.2.1.toList == key.toList) = none := by
          rw [List.find?_eq_none]; intro e he; rw [hn e he]; simp
        simp [keq_false h2, hf, h2]
    · have h2 := kl_ne h1
      simp [keq_false h2, ih]
theorem ent_some {key : ByteArray} {l : List En} {e : En} (h : ent key l = some e) : e ∈ l ∧ e.2.1 = key := by
  have h1 := List.mem_of_find?_eq_some h
  have h2 := List.find?_some h
  exact ⟨h1, keq_iff.1 h2⟩
theorem ent_none {key : ByteArray} {l : List En} (h : ent key l = none) : ∀ e ∈ l, e.2.1 ≠ key := by
  intro e he e2
  have := List.find?_eq_none.1 h e he
  rw [e2] at this
  simp at this
set_option maxHeartbeats 2000000 in
theorem at_any (o : Option Addr) (key : ByteArray) (t : Tr) (w : World) (ht : TO w o t) :
    Calls Tryz.prog 83 #[.pointer o, .string key] w fun x w' => x = .returned (optP (ent key t.toL)) ∧ Below w.heap.size w w' := by
  have G := hid (geq_any o key t w ht)
  have HE := hid (ent_eq key ht.rs)
  have HM := hid (fun (e : En) (he : e ∈ t.toL) => ht.at_.mem e.1 e.2.1 e.2.2 he)
  clear ht
  cases hq : geqE key t.toL with
  | none =>
    have G2 := hid (hq ▸ G.out)
    have HE2 := hid (show ent key t.toL = none by rw [HE.out, hq])
    clear G hq HE
    go_enter Tryz.func83, Tryz.ntmps83
    go_wp2_with (
      go_at_call 110
      refine G2.out.mono ?_
      rintro e w1 ⟨e1, hb⟩
      have e2 : e = .returned (.pointer none) := e1
      subst e2
      have HB := hid hb
      clear hb e1)
    go_ret
    exact ⟨by rw [HE2.out]; rfl, HB.out⟩
  | some c =>
    obtain ⟨b, k, v⟩ := c
    have G2 := hid (hq ▸ G.out)
    obtain ⟨p', q', h', nd⟩ := HM.out (b, k, v) (geq_mem hq)
    have d0 := (cells5 nd).1
    by_cases hk : k = key
    · subst hk
      have HE2 := hid (show ent k t.toL = some (b, k, v) by rw [HE.out, hq]; simp)
      have hbl := World.block_lt_of_cell? _ _ d0
      clear G hq HE HM nd
      go_enter Tryz.func83, Tryz.ntmps83
      go_wp2_with (
        go_at_call 110
        refine G2.out.mono ?_
        rintro e w1 ⟨e1, hb⟩
        have e2 : e = .returned (.pointer (some ⟨b, 0, none⟩)) := e1
        subst e2
        have f0 := (hb.cell hbl).trans d0
        have HB := hid hb
        clear hb e1)
      go_ret
      exact ⟨by rw [HE2.out]; rfl, HB.out⟩
    · have HE2 := hid (show ent key t.toL = none by rw [HE.out, hq]; simp [hk])
      have hbl := World.block_lt_of_cell? _ _ d0
      have hke := keq_false hk
      clear G hq HE HM nd hk
      go_enter Tryz.func83, Tryz.ntmps83
      go_wp2_with (
        go_at_call 110
        refine G2.out.mono ?_
        rintro e w1 ⟨e1, hb⟩
        have e2 : e = .returned (.pointer (some ⟨b, 0, none⟩)) := e1
        subst e2
        have f0 := (hb.cell hbl).trans d0
        have HB := hid hb
        clear hb e1)
      go_ret
      exact ⟨by rw [HE2.out]; rfl, HB.out⟩
abbrev zv : Value := .pointer none
def getV (key : ByteArray) (l : List En) : Value := match ent key l with | some e => .tuple #[e.2.2, .bool true] | none => .tuple #[zv, .bool false]
set_option maxHeartbeats 2000000 in
theorem get_any (o : Option Addr) (key : ByteArray) (t : Tr) (w : World) (ht : TO w o t) :
    Calls Tryz.prog 82 #[.pointer o, .string key] w fun x w' => x = .returned (getV key t.toL) ∧ Below w.heap.size w w' := by
  have G := hid (at_any o key t w ht)
  have HM := hid (fun (e : En) (he : e ∈ t.toL) => ht.at_.mem e.1 e.2.1 e.2.2 he)
  clear ht
  cases hq : ent key t.toL with
  | none =>
    have G2 := hid (hq ▸ G.out)
    have HE2 := hid hq
    clear G hq
    go_enter Tryz.func82, Tryz.ntmps82
    go_wp2_with (
      go_at_call 83
      refine G2.out.mono ?_
      rintro e w1 ⟨e1, hb⟩
      have e2 : e = .returned (.pointer none) := e1
      subst e2
      have HB := hid hb
      clear hb e1)
    go_ret2
    exact ⟨by rw [getV, HE2.out]; rfl, below_on HB.out (below_new _ _)⟩
  | some c =>
    obtain ⟨b, k, v⟩ := c
    have G2 := hid (hq ▸ G.out)
    obtain ⟨p', q', h', nd⟩ := HM.out (b, k, v) (ent_some hq).1
    have d0 := (cells5 nd).2.1
    have HE2 := hid hq
    have hbl := World.block_lt_of_cell? _ _ d0
    clear G hq HM nd
    go_enter Tryz.func82, Tryz.ntmps82
    go_wp2_with (
      go_at_call 83
      refine G2.out.mono ?_
      rintro e w1 ⟨e1, hb⟩
      have e2 : e = .returned (.pointer (some ⟨b, 0, none⟩)) := e1
      subst e2
      have f0 := (hb.cell hbl).trans d0
      have HB := hid hb
      clear hb e1)
    go_ret2
    exact ⟨by rw [getV, HE2.out]; rfl, HB.out⟩
def nextV (above : ByteArray) (l : List En) : Value := match gtrE above l with | some e => .tuple #[.string e.2.1, .bool true] | none => .tuple #[.string ⟨#[]⟩, .bool false]
def Short (t : Tr) : Prop := ∀ e ∈ t.toL, e.2.1.size ≤ 281474976710656
end Go.Proofs.YthcoigbkdbkojabGreat.V
