import Derived.Test.YtamajeagmkjjbaaW2
import Derived.Lib.AppendStr
namespace Go.Proofs.Ytamajeagmkjjbaa
open Go.RowKit Go.Lib

/-- A text's bytes. -/
def strBs (s : ByteArray) : List Int := s.data.toList.map fun b => (b.toNat : Int)
theorem strBs_len (s : ByteArray) : (strBs s).length = s.size := by
  unfold strBs; rw [List.length_map, Array.length_toList]; rfl
theorem strCells_B8 (s : ByteArray) : strCells s = B8 (strBs s) := by
  simp [strCells, strBs, B8, List.map_map, Function.comp_def]

/-- Where the bytes of a text, appended to a row, come to lie. -/
theorem append_str_at {P : Program} (w : World) (B : Nat) (t u ty e : TypeId) (i : TypeInfo) (ht : P.underlying t = some (.slice e)) (hu : P.underlying u = some .string) (hi : P.info? e = some i) (hz : i.zero = some (.int .u8 0))
    (hsize : i.size = 1) (hby : i.bytes = 1) (v : Value) (n : Nat) (xs : List Value) (hn : 0 < n) (hown : w.ownsRow B e 1 v n xs) (s : ByteArray)
    (h63 : n + s.size ≤ maxLen) (hbytes : n + s.size ≤ 140737488355328) (hbase : B ≤ w.heap.size) :
    ∃ g cap w', (Builtin.append_ #[t, u] ty #[v, .string s]).run P w = .ok (.slice (some ⟨g, 0, none⟩) (n + s.size) cap) w' ∧ w'.ownsRow B e 1 (.slice (some ⟨g, 0, none⟩) (n + s.size) cap) (n + s.size) (xs ++ strCells s) ∧
      w.grownBy w' v.ownBlock ∧ (v.ownBlock = some g ∨ g = w.heap.size) := by
  obtain ⟨v', w', hr, h2, h3, _⟩ := run_append_own_string (P := P) w B t u ty e i ht hu hi hz hsize hby v n xs hown s h63 hbytes hbase
  have hxl : xs.length = n := by simpa using hown.1
  rcases hown.2 with ⟨_, h0⟩ | ⟨g, cap, cur, rfl, _, hg, _, _, hcs, _⟩
  · omega
  · by_cases hroom : n + s.size ≤ cap
    · have hr2 := run_append_room_string (P := P) w t u ty e i ht hu hi hsize g n cap cur hg s hroom (by omega)
      have hv := hr
      rw [hr2] at hv
      injection hv with hv1 hv2
      subst hv1
      exact ⟨g, cap, w', hr, h2, h3, .inl rfl⟩
    · have holds : ∀ j u, xs[j]? = some u → w.cell? ((⟨g, 0, none⟩ : Addr).add j) = some u := hown.cells (g := g) rfl
      have hr2 := run_append_grow_string (P := P) w t u ty e i (.int .u8 0) ht hu hi hz ⟨g, 0, none⟩ n cap xs (by rw [hsize]; omega) holds s (by omega) (by simp only [maxLen] at h63; omega) (by rw [hby]; exact growslice_fits (by omega) (by omega))
      have hv := hr
      rw [hr2] at hv
      injection hv with hv1 hv2
      subst hv1
      exact ⟨_, _, w', hr, h2, h3, .inr rfl⟩

theorem wpList_append_str_at {P : Program} (w : World) {ops : Array Oper} {rest : List Oper} {o : Oper} {a : Act} {Q : Exit → Act → World → Prop} (hgd : o.guard = none) (sl x : Operand) (t u : TypeId)
    (ho : o.op = .call { callee := .builtin .append, args := #[sl, x], argTypes := #[t, u] })
    (B : Nat) (e : TypeId) (i : TypeInfo) (ht : P.underlying t = some (.slice e)) (hu : P.underlying u = some .string) (hi : P.info? e = some i) (hz : i.zero = some (.int .u8 0))
    (hsize : i.size = 1) (hby : i.bytes = 1) (v : Value) (n : Nat) (xs : List Value) (hn : 0 < n) (hs : a.eval sl = v) (hown : w.ownsRow B e 1 v n xs) (s : ByteArray) (hx : a.eval x = .string s)
    (h63 : n + s.size ≤ maxLen) (hbytes : n + s.size ≤ 140737488355328) (hbase : B ≤ w.heap.size)
    (h : ∀ g cap w', w'.ownsRow B e 1 (.slice (some ⟨g, 0, none⟩) (n + s.size) cap) (n + s.size) (xs ++ strCells s) → w.grownBy w' v.ownBlock → (v.ownBlock = some g ∨ g = w.heap.size) → wpList P ops Q rest (a.put o.dst (.slice (some ⟨g, 0, none⟩) (n + s.size) cap)) w') : wpList P ops Q (o :: rest) a w := by
  refine wpList_plain hgd fun K hK => ?_
  obtain ⟨g, cap, w', hr, h2, h3, h4⟩ := append_str_at (P := P) w B t u o.type e i ht hu hi hz hsize hby v n xs hn hown s h63 hbytes hbase
  unfold Oper.wp execOp
  simp only [ho, resolve, invoke, builtin, Sem.run_bind, Sem.run_pure, Result.andThen_ok, List.map_toArray, List.map_cons, List.map_nil, hs, hx, hr]
  exact hK _ _ (h g cap w' h2 h3 h4)

theorem rowF_pos (f : Nat) (u : Int) : 0 < (rowF f u).length := by
  cases f with
  | zero => simp [rowF]
  | succ f => unfold rowF; split <;> simp
theorem rowF_le (f : Nat) (u : Int) : (rowF f u).length ≤ f + 1 := by
  induction f generalizing u with
  | zero => simp [rowF]
  | succ f ih => unfold rowF; split
                 · have := ih (u / 128); simp; omega
                 · simp

/-- The Writer's block behind an append without a new block ahead. -/
theorem push_block0 {B : Nat} {w w1 : World} {p : Nat} {v : Value} {e : Int} {bs : List Int} (h1 : w.heap[p]? = some (.cells #[v, .int .i64 e] 29 (0, 0))) (hw : Wr B w p v.ownBlock bs e)
    (hgrow : w.grownBy w1 v.ownBlock) : w1.heap[p]? = some (.cells #[v, .int .i64 e] 29 (0, 0)) := by
  have hp := (Array.getElem?_eq_some_iff.1 h1).1
  rw [hgrow.block p hp (fun h => hw.ne h.symm)]
  exact h1

theorem push_step0 {B : Nat} {w w1 : World} {p : Nat} {v : Value} {e : Int} {bs ns : List Int} (h1 : w.heap[p]? = some (.cells #[v, .int .i64 e] 29 (0, 0))) (hw : Wr B w p v.ownBlock bs e)
    (hgrow : w.grownBy w1 v.ownBlock) {g n cap : Nat} (hown : w1.ownsRow B 5 1 (.slice (some ⟨g, 0, none⟩) n cap) n (B8 bs ++ B8 ns)) (hat : v.ownBlock = some g ∨ g = w.heap.size) :
    WrStep B p v.ownBlock w (w1.setCell ⟨p, 0, none⟩ (.slice (some ⟨g, 0, none⟩) n cap)) (bs ++ ns) e := by
  have hp := (Array.getElem?_eq_some_iff.1 h1).1
  have hb := push_block0 h1 hw hgrow
  have hne : g ≠ p := by
    rcases hat with h | h
    · intro e; subst e; exact hw.ne h
    · omega
  have hn : n = (bs ++ ns).length := by
    have := hown.1
    simp at this
    simp
    omega
  refine ⟨some g, ⟨_, heap_setCell_same hb, rfl, ?_⟩, ?_, ?_⟩
  · rw [← hn]
    have h2 : (w1.setCell ⟨p, 0, none⟩ (.slice (some ⟨g, 0, none⟩) n cap)).ownsRow B 5 1 (.slice (some ⟨g, 0, none⟩) n cap) n (B8 bs ++ B8 ns) :=
      ownsRow_kept hown (S := fun k => k = p) ⟨rfl, rfl, rfl, by simp [World.setCell], fun k _ hn => Below.heap_setCell _ _ _ _ hn⟩ (by intro k hk; simp [Value.ownBlock] at hk; omega)
    simpa using h2
  · rcases hat with h | h
    · exact .inl h.symm
    · exact .inr ⟨g, by omega, rfl⟩
  · refine Kept.setCell (Kept.grown (Kept.refl _ w) hgrow ?_) ?_ _
    · intro k _ hk; exact .inr hk
    · intro _; exact .inl rfl

set_option maxRecDepth 100000 in
set_option maxHeartbeats 800000 in
theorem wtext_any (B p : Nat) (g : Option Nat) (bs : List Int) (e : Int) (w : World) (s : ByteArray) (h : Wr B w p g bs e) (hB : B ≤ w.heap.size) (hs : s.size ≤ 1000000000) (hl : bs.length ≤ 1000000000) :
    Calls Try.prog 29 #[.pointer (some ⟨p, 0, none⟩), .string s] w fun x w' => x = .returned (.tuple #[]) ∧ WrStep B p g w w' (wtextZ (bs, e) (strBs s)).1 (wtextZ (bs, e) (strBs s)).2 := by
  by_cases he : e = 0
  · subst he
    obtain ⟨i0, hi, hz0, hz1, hz2⟩ := info_parts Try.info5
    have hr : wtextZ (bs, 0) (strBs s) = (bs ++ rowF 10 (s.size : Int) ++ strBs s, 0) := by unfold wtextZ; rw [if_pos rfl, strBs_len]
    rw [hr]
    clear hr
    have hl1 := rowF_pos 10 (s.size : Int)
    have hl2 := rowF_le 10 (s.size : Int)
    obtain ⟨R, hR⟩ : ∃ R, R = bs ++ rowF 10 (s.size : Int) := ⟨_, rfl⟩
    have hRl : R.length ≤ bs.length + 11 ∧ 0 < R.length := by rw [hR]; simp; omega
    rw [← hR]
    have HR : Hid _ := hR
    clear hR
    go_enter Try.func29, Try.ntmps29
    go_wp2_with (first | (go_at_call 50; refine (open_any B p g bs 0 _ h).mono ?_; rintro e w' ⟨rfl, hww⟩; subst hww) | fail)
    refine (wrow_any B p g bs 0 _ (s.size : Int) h hB (by omega) (by omega) hl).mono ?_
    rintro x w1 ⟨rfl, g1, hw1, hg1, hk1⟩
    rw [← HR.out] at hw1
    have hw1o := hw1
    obtain ⟨v, hv1, hv2, hv3⟩ := hw1o
    subst hv2
    obtain ⟨c0, c1⟩ := cell_of_pair hv1
    have hsz := hk1.size
    have Hw : Hid _ := hw1
    have Hg : Hid _ := hg1
    have Hv : Hid _ := hv1
    clear hw1 hg1 h hl1 hl2 hv1
    go_wp2_with (at_builtin; refine wpList_append_str_at _ rfl _ _ 26 9 rfl B 5 i0 Try.underlying26 Try.underlying9 hi hz0 hz1 hz2 v R.length (B8 R) (by omega) rfl hv3 s rfl (by unfold maxLen; omega) (by omega) (by omega) ?_)
    intro g2 cap w2 hown hgrow hat
    have hb1 := push_block0 Hv.out Hw.out hgrow
    rw [strCells_B8] at hown
    have P := push_step0 Hv.out Hw.out hgrow hown hat
    obtain ⟨d0, d1⟩ := cell_of_pair hb1
    have d2 := free_of_block (o := 0) hb1
    clear hb1 hown hgrow hat c0 c1
    go_wp2
    go_end0
    obtain ⟨ga, qa, qb, qc⟩ := P
    exact ⟨rfl, wr_trans Hg.out hk1 qa qb qc⟩
  · have hr : wtextZ (bs, e) (strBs s) = (bs, e) := by unfold wtextZ; rw [if_neg he]
    rw [hr]
    have he' : (e == 0) = false := by simpa using he
    clear hr
    go_enter Try.func29, Try.ntmps29
    go_wp2_with (go_at_call 50; refine (open_any B p g bs e _ h).mono ?_; rintro e w' ⟨rfl, hww⟩; subst hww)
    refine bodyPost_ret (results_none Try.results29 _ _ _) rfl ?_
    exact ⟨rfl, WrStep.refl h⟩

end Go.Proofs.Ytamajeagmkjjbaa
