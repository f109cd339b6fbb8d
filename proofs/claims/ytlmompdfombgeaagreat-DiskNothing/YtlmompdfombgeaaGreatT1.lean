import Derived.Test.YtlmompdfombgeaaGreatK2
import Derived.Test.YtlmompdfombgeaaGreatIter
namespace Go.Proofs.YtlmompdfombgeaaGreat
open Go.RowKit Go.MapKept Go.Maps Go.Sort Go.Shelf

/-- Whatever a value is, it reads as this. -/
def anyR : Value → Option (DataW Unit × List MemPlace) := fun _ => some (.lit (.bool true), [])

theorem owns1S (w : World) (b bM cM : Nat) (nm : ByteArray) (v : Value) (hb : w.heap[b]? = some (.map #[{ key := .string nm, val := v, born := bM }] cM)) (h1 : bM < cM) (hs : nm.size ≤ maxLen) : w.ownsMap Tryz.prog 9 anyR b 1 (.map [(.string nm.data.toList, .lit (.bool true))]) := by
  have hk : keyOf Tryz.prog 9 (.string nm) = some (.string nm.data.toList) := WideMaps.keyOf_string_mk Tryz.underlying9 hs
  refine ⟨_, cM, hb, ⟨by simp [maxLen], ⟨by simpa using h1, by simp, by simp⟩, ?_⟩, by simp, ?_⟩
  · intro x hx
    simp at hx
    subst hx
    exact ⟨(.string nm.data.toList, .lit (.bool true)), by simp [WideElems.rd, hk, anyR]⟩
  · simp [WideElems.rg, WideElems.rd, hk, anyR, DataW.insert]

theorem owns0S (w : World) (b cM : Nat) (hb : w.heap[b]? = some (.map #[] cM)) : w.ownsMap Tryz.prog 9 anyR b 0 (.map []) :=
  ⟨_, cM, hb, ⟨by simp, ⟨by simp, by simp, by simp⟩, by simp⟩, by simp, rfl⟩

theorem owns1I (w : World) (b bM cM : Nat) (n : Int) (v : Value) (hb : w.heap[b]? = some (.map #[{ key := .int .i64 n, val := v, born := bM }] cM)) (h1 : bM < cM) (hs : (Lit.int .i64 n).wf = true) : w.ownsMap Tryz.prog 3 anyR b 1 (.map [(.int .i64 n, .lit (.bool true))]) := by
  have hk : keyOf Tryz.prog 3 (.int .i64 n) = some (.int .i64 n) := keyOf_int_mk Tryz.underlying3 hs
  refine ⟨_, cM, hb, ⟨by simp [maxLen], ⟨by simpa using h1, by simp, by simp⟩, ?_⟩, by simp, ?_⟩
  · intro x hx
    simp at hx
    subst hx
    exact ⟨(.int .i64 n, .lit (.bool true)), by simp [WideElems.rd, hk, anyR]⟩
  · simp [WideElems.rg, WideElems.rd, hk, anyR, DataW.insert]

theorem owns0I (w : World) (b cM : Nat) (hb : w.heap[b]? = some (.map #[] cM)) : w.ownsMap Tryz.prog 3 anyR b 0 (.map []) :=
  ⟨_, cM, hb, ⟨by simp, ⟨by simp, by simp, by simp⟩, by simp⟩, by simp, rfl⟩

theorem sorted_one (b bM cM : Nat) (nm : ByteArray) (v : Value) (w : World) (hb : w.heap[b]? = some (.map #[{ key := .string nm, val := v, born := bM }] cM)) (h1 : bM < cM) (hs : nm.size ≤ maxLen) :
    Calls Tryz.prog 72 #[.map (some b)] w fun e w' => ∃ g cap, e = .returned (.slice (some ⟨g, 0, none⟩) 1 cap) ∧ w'.cell? ⟨g, 0, none⟩ = some (.string nm) ∧ Below w.heap.size w w' := by
  refine (sorted_any b 1 _ anyR w (owns1S w b bM cM nm v hb h1 hs) (by simp [Maps.size, maxLen]) (by simp [Maps.size])).mono ?_
  rintro e w' ⟨v', ss, rfl, hp, ho, hn, hbl⟩
  simp [strKeys, strOf] at hp
  subst hp
  obtain ⟨g, c, rfl⟩ := own_some ho (by simp)
  refine ⟨g, c, rfl, ?_, hbl⟩
  have := ho.cells (g := g) rfl 0 (encStr nm.data.toList) (by simp)
  rw [add_lit] at this
  simpa [encStr] using this

theorem sorted_zero (b cM : Nat) (w : World) (hb : w.heap[b]? = some (.map #[] cM)) :
    Calls Tryz.prog 72 #[.map (some b)] w fun e w' => e = .returned (.slice none 0 0) ∧ Below w.heap.size w w' := by
  refine (sorted_any b 0 _ anyR w (owns0S w b cM hb) (by simp [Maps.size]) (by simp [Maps.size])).mono ?_
  rintro e w' ⟨v', ss, rfl, hp, ho, hn, hbl⟩
  simp [strKeys] at hp
  exact ⟨by rw [hn.2 hp], hbl⟩

theorem making_one (d b bM cM : Nat) (v : Value) (w : World) (hc : w.cell? ⟨d, 2, none⟩ = some (.map (some b))) (hb : w.heap[b]? = some (.map #[{ key := .int .i64 1, val := v, born := bM }] cM)) (h1 : bM < cM) :
    Calls Tryz.prog 73 #[.pointer (some ⟨d, 0, none⟩)] w fun e w' => ∃ g cap, e = .returned (.slice (some ⟨g, 0, none⟩) 1 cap) ∧ w'.cell? ⟨g, 0, none⟩ = some (.int .i64 1) ∧ Below w.heap.size w w' := by
  refine (making_any d b 1 _ anyR w hc (owns1I w b bM cM 1 v hb h1 (by decide)) (by simp [Maps.size, maxLen]) (by simp [Maps.size])).mono ?_
  rintro e w' ⟨v', ss, rfl, hp, ho, hn, hbl⟩
  simp [intKeys, Go.intOf] at hp
  subst hp
  obtain ⟨g, c, rfl⟩ := own_some ho (by simp)
  refine ⟨g, c, rfl, ?_, hbl⟩
  have := ho.cells (g := g) rfl 0 (encZ 1) (by simp)
  rw [add_lit] at this
  simpa [encZ] using this

theorem making_zero (d b cM : Nat) (w : World) (hc : w.cell? ⟨d, 2, none⟩ = some (.map (some b))) (hb : w.heap[b]? = some (.map #[] cM)) :
    Calls Tryz.prog 73 #[.pointer (some ⟨d, 0, none⟩)] w fun e w' => e = .returned (.slice none 0 0) ∧ Below w.heap.size w w' := by
  refine (making_any d b 0 _ anyR w hc (owns0I w b cM hb) (by simp [Maps.size]) (by simp [Maps.size])).mono ?_
  rintro e w' ⟨v', ss, rfl, hp, ho, hn, hbl⟩
  simp [intKeys] at hp
  exact ⟨by rw [hn.2 hp], hbl⟩

theorem Tryz.info93 : (Tryz.prog.info? 93).map (fun i => (i.zero, i.size, i.bytes)) = some (some (.agg #[.string ⟨#[]⟩, .slice none 0 0]), 2, 40) := by kernel_rfl

set_option maxRecDepth 100000 in
set_option maxHeartbeats 1600000 in
theorem told_one (b bM cM fn : Nat) (nm : ByteArray) (lb : Array Value) (da : Option Addr) (dn dc : Nat) (w : World) (hb : w.heap[b]? = some (.map #[{ key := .string nm, val := .int .i64 1, born := bM }] cM)) (h1 : bM < cM) (hs : nm.size ≤ maxLen)
    (he : ∀ args w, (callFunc fn args).run Tryz.prog w = .ok (.enter fn args) w) (hdata : ∀ w1, Below w.heap.size w w1 → Calls Tryz.prog fn (#[.int .i64 1] ++ lb) w1 fun x w2 => x = .returned (.slice da dn dc) ∧ Below w1.heap.size w1 w2) :
    Calls Tryz.prog 96 #[.map (some b), .func (.func fn) #[] lb] w fun x w' => ∃ X cap, x = .returned (.slice (some ⟨X, 0, none⟩) 1 cap) ∧ w'.cell? ⟨X, 0, none⟩ = some (.string nm) ∧ w'.cell? ⟨X, 1, none⟩ = some (.slice da dn dc) ∧ Below w.heap.size w w' := by
  obtain ⟨i0, hi, hz0, hz1, hz2⟩ := info_parts Tryz.info93
  have HB := hid hb
  have HD := hid hdata
  clear hb hdata
  go_enter Tryz.func96, Tryz.ntmps96
  go_wp2_with (
    go_at_call 72
    refine (sorted_one b bM cM nm _ w HB.out h1 hs).mono ?_
    rintro e w1 ⟨g, cap, rfl, hg, hb1⟩
    have hl := look_found (w := w1) Tryz.underlying47 Tryz.underlying9 (hp_below HB.out hb1 (hp_lt HB.out)) (key_str nm) (show Instr.findNow .string (.string nm) _ 0 = some (some (0, .int .i64 1)) by simp [Instr.findNow, Instr.sameNow, beq_self]) false
    simp only [Bool.false_eq_true, if_false] at hl
    have HB1 := hid hb1
    clear hb1)
  refine wp_loop_rounds 2 ?_
  rw [rounds_succ]
  go_wp2_with (first
    | (at_builtin; go_loud (
       refine wpList_append_lies _ rfl _ _ 75 rfl w.heap.size 93 i0 _ 2 40 Tryz.underlying75 hi hz0 hz1 hz2 rfl (by omega) (.slice none 0 0) 0 [] rfl (owns_nil _ _ _ _) ⟨w2.heap.size, 0, none⟩ 1 1 [.string nm, .slice da dn dc] rfl rfl (World.news_of_block (cs := #[.string nm, .slice da dn dc]) (t := 93) (fr := (0, 0)) (heap_alloc_new w2 _)) (by simp [Value.oneCell']) (by omega) (by unfold maxLen; omega) (by omega) (by have a := HB1.out.size; have c := HB2.out.size; simp; omega) (w2.heap.size + 1) (by simp) ?_
       intro gg cq w3 hown hgrow hat hgl
       have HG := hid (And.intro hown (And.intro hgrow hat))
       clear hown hgrow hat))
    | (refine (HD.out w1 HB1.out).mono ?_
       rintro e w2 ⟨rfl, hb2⟩
       have HB2 := hid hb2
       clear hb2))
  rw [rounds_succ]
  go_wp2
  go_ret
  obtain ⟨hown, hgrow, hat⟩ := HG.out
  have q0 := hown.cells (g := gg) rfl 0 (.string nm) (by simp)
  have q1 := hown.cells (g := gg) rfl 1 (.slice da dn dc) (by simp)
  rw [add_lit] at q0 q1
  refine ⟨gg, cq, rfl, by simpa using q0, by simpa using q1, ?_⟩
  have hb2 := HB2.out
  exact ((HB1.out.trans (hb2.mono HB1.out.size)).alloc (Nat.le_trans HB1.out.size hb2.size) _).grown hgrow (by have a := HB1.out.size; have c := hb2.size; simp; omega) (fun k e => by simp [Value.ownBlock] at e)

set_option maxRecDepth 100000 in
set_option maxHeartbeats 1600000 in
theorem told_zero (b cM fn : Nat) (lb : Array Value) (w : World) (hb : w.heap[b]? = some (.map #[] cM)) :
    Calls Tryz.prog 96 #[.map (some b), .func (.func fn) #[] lb] w fun x w' => x = .returned (.slice none 0 0) ∧ Below w.heap.size w w' := by
  have HB := hid hb
  clear hb
  go_enter Tryz.func96, Tryz.ntmps96
  go_wp2_with (
    go_at_call 72
    refine (sorted_zero b cM w HB.out).mono ?_
    rintro e w1 ⟨rfl, hb1⟩
    have HB1 := hid hb1
    clear hb1)
  refine wp_loop_rounds 1 ?_
  rw [rounds_succ]
  go_wp2
  go_ret
  exact ⟨rfl, HB1.out⟩

end Go.Proofs.YtlmompdfombgeaaGreat
