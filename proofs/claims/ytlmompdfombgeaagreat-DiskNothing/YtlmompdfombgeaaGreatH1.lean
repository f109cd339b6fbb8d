import Derived.Test.YtlmompdfombgeaaGreatG3
namespace Go.Proofs.YtlmompdfombgeaaGreat
open Go.RowKit Go.MapKept

theorem set_last (w : World) (x : Option Nat) (y : Nat) (z : Array Nat) (u : Nat) (o' : Obj) : (setObj w.heap.size o').run Tryz.prog (w.alloc (.mapIter x y z u)) = .ok () (w.alloc o') := by
  have hp : (w.heap.push (.mapIter x y z u)).setIfInBounds w.heap.size o' = w.heap.push o' := by
    apply Array.toList_inj.1
    simp
  simp only [setObj, Sem.run]
  rw [hp_new]
  show Result.ok () ({ w.alloc (.mapIter x y z u) with heap := (w.heap.push (.mapIter x y z u)).setIfInBounds w.heap.size o' } : World) = _
  rw [hp]
  rfl

theorem next_one (w : World) (ty : TypeId) (m c b : Nat) (key val : Value) (hb : w.heap[m]? = some (.map #[{ key := key, val := val, born := b }] c)) (hbc : b < c) :
    (Instr.next (.pointer (some ⟨w.heap.size, 0, none⟩)) false ty).run Tryz.prog (w.alloc (.mapIter (some m) c #[] c)) = .ok (.tuple #[.bool true, key, val]) (w.alloc (.mapIter (some m) c #[b] c)) := by
  have hb' := hp_alloc hb (.mapIter (some m) c #[] c)
  have h1 : ¬ c ≤ b := by omega
  have hs := fun o' => set_last w (some m) c #[] c o'
  simp only [Instr.next, getObj, Sem.run_bind, Sem.run, hp_new, hb', Result.andThen]
  simp [hbc, h1, choose, Sem.run, Question.forced, hs]

theorem next_over (w : World) (ty : TypeId) (m c b : Nat) (key val : Value) (hb : w.heap[m]? = some (.map #[{ key := key, val := val, born := b }] c)) (hbc : b < c) :
    (Instr.next (.pointer (some ⟨w.heap.size, 0, none⟩)) false ty).run Tryz.prog (w.alloc (.mapIter (some m) c #[b] c)) = .ok (.tuple #[.bool false]) (w.alloc (.mapIter (some m) c #[b] c)) := by
  have hb' := hp_alloc hb (.mapIter (some m) c #[b] c)
  have h1 : ¬ c ≤ b := by omega
  simp only [Instr.next, getObj, Sem.run_bind, Sem.run, hp_new, hb', Result.andThen]
  simp [h1, choose, Sem.run, Question.forced]

theorem next_none (w : World) (ty : TypeId) (m c : Nat) (hb : w.heap[m]? = some (.map #[] c)) :
    (Instr.next (.pointer (some ⟨w.heap.size, 0, none⟩)) false ty).run Tryz.prog (w.alloc (.mapIter (some m) c #[] c)) = .ok (.tuple #[.bool false]) (w.alloc (.mapIter (some m) c #[] c)) := by
  rcases run_next_map (P := Tryz.prog) w ty m c c #[] #[] c hb (by simp) (Nat.le_refl _) with ⟨_, h⟩ | ⟨e, he, _⟩
  · exact h
  · simp [leftOf] at he

theorem entry_one (w : World) (m c b : Nat) (key val : Value) (hb : w.heap[m]? = some (.map #[{ key := key, val := val, born := b }] c)) :
    (Instr.entry (.pointer (some ⟨w.heap.size, 0, none⟩))).run Tryz.prog (w.alloc (.mapIter (some m) c #[b] c)) = .ok (.tuple #[key, val]) (w.alloc (.mapIter (some m) c #[b] c)) := by
  have h := run_entry_map (P := Tryz.prog) w m c #[] #[{ key := key, val := val, born := b }] c { key := key, val := val, born := b } hb (by simp) (by simp)
  simpa using h

set_option maxRecDepth 100000 in
set_option maxHeartbeats 1000000 in
theorem held_one (L c b p : Nat) (key : Value) (peak : Int) (w : World) (hL : w.heap[L]? = some (.map #[{ key := key, val := .pointer (some ⟨p, 0, none⟩), born := b }] c)) (hbc : b < c) (hp : w.cell? ⟨p, 4, none⟩ = some (.int .i64 peak)) (h0 : 0 ≤ peak) (h1 : peak ≤ 1000000000) :
    Calls Tryz.prog 74 #[.map (some L)] w fun x w' => x = .returned (.tuple #[.int .i64 peak, .int .i64 1]) ∧ Below w.heap.size w w' := by
  have hr := run_range_map (P := Tryz.prog) w 46 3 100 L _ c Tryz.underlying46 hL
  have hn1 := fun ty => next_one w ty L c b key _ hL hbc
  have hn2 := fun ty => next_over w ty L c b key _ hL hbc
  have he := entry_one w L c b key _ hL
  have hlen := fun ty => len_map (w := w.alloc (.mapIter (some L) c #[b] c)) Tryz.underlying46 (hp_alloc hL _) ty
  have hpl := World.block_lt_of_cell? _ _ hp
  have hnw := World.new_ne w ⟨p, 4, none⟩ hp
  clear hL
  go_enter Tryz.func74, Tryz.ntmps74
  go_wp2
  refine wp_loop_rounds 2 ?_
  rw [rounds_succ]
  go_wp2
  rw [rounds_succ]
  go_wp2
  go_ret2
  exact ⟨rfl, (Below.refl _ _).alloc (Nat.le_refl _) _⟩

set_option maxRecDepth 100000 in
set_option maxHeartbeats 1000000 in
theorem held_none (L c : Nat) (w : World) (hL : w.heap[L]? = some (.map #[] c)) :
    Calls Tryz.prog 74 #[.map (some L)] w fun x w' => x = .returned (.tuple #[.int .i64 0, .int .i64 0]) ∧ Below w.heap.size w w' := by
  have hr := run_range_map (P := Tryz.prog) w 46 3 100 L _ c Tryz.underlying46 hL
  have hn1 := fun ty => next_none w ty L c hL
  have hlen := fun ty => len_map (w := w.alloc (.mapIter (some L) c #[] c)) Tryz.underlying46 (hp_alloc hL _) ty
  clear hL
  go_enter Tryz.func74, Tryz.ntmps74
  go_wp2
  refine wp_loop_rounds 1 ?_
  rw [rounds_succ]
  go_wp2
  go_ret2
  exact ⟨rfl, (Below.refl _ _).alloc (Nat.le_refl _) _⟩

end Go.Proofs.YtlmompdfombgeaaGreat
