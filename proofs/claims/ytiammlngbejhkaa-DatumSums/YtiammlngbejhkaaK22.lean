import Derived.Test.YtiammlngbejhkaaK02
import Derived.Test.YtiammlngbejhkaaK03
import Derived.Shelf.SlGeneric
import Derived.Shelf.Strconv.Itoa1
import Derived.Ground.NamesProg
import Derived.Test.YtiammlngbejhkaaProg
import Derived.Lib.ItoaNum
import Derived.Laws.AppendOwnNone
import Derived.Test.YtiammlngbejhkaaK01
import Derived.Deep.Cut
namespace Go.Proofs.Ytiammlngbejhkaa
open Go.RowKit Go.Lib

set_option maxRecDepth 100000 in
set_option maxHeartbeats 1600000 in
theorem join_6262 (k i : Int) (s : ByteArray) (l j : Int) (t : ByteArray) (w : World) (va vb : Value) (ha : chd k i s = .iface 62 va) (hb : chd l j t = .iface 62 vb) (ya yb : List Int) (hla : Lays' 133 va ya w) (hlb : Lays' 133 vb yb w) (hy : ya.length ≤ 1000) (_hy2 : yb.length ≤ 1000) :
    Calls Try.prog 24 #[vl k i s, vl l j t] w fun e w' => e = .returned (joinV (ya ++ yb)) ∧ Below w.heap.size w w' := by
  obtain ⟨hA, hB, hC, h0⟩ := three w (vo k i s) (vo l j t) (vo 0 0 emp)
  have ca := checked_any k i s
  have cb := checked_any l j t
  rw [ha] at ca
  rw [hb] at cb
  have CA := hid ca
  have CB := hid cb
  have LA := hid hla
  have LB := hid hlb
  clear ca cb ha hb hla hlb
  go_enter Try.func24, Try.ntmps24
  go_wp2
  show Code.wp _ _ _ _ (((w.alloc (vo k i s)).alloc (vo l j t)).alloc (vo 0 0 emp))
  obtain ⟨W0, hW0⟩ : ∃ W0, W0 = (((w.alloc (vo k i s)).alloc (vo l j t)).alloc (vo 0 0 emp)) := ⟨_, rfl⟩
  rw [← hW0] at hA hB hC h0 ⊢
  clear hW0
  obtain ⟨a0, a1, a2, -⟩ := vfacts hA
  obtain ⟨b0, b1, b2, -⟩ := vfacts hB
  have HB := hid hB
  have HC := hid hC
  have H0 := hid h0
  clear hA hB hC h0
  go_region_held (fun w' => w'.cell? ⟨w.heap.size, 0, none⟩ = some (.int .i64 k) ∧ w'.cell? ⟨w.heap.size, 1, none⟩ = some (.int .i64 i) ∧ w'.cell? ⟨w.heap.size, 2, none⟩ = some (.string s) ∧ w'.cell? ⟨w.heap.size + 1, 0, none⟩ = some (.int .i64 l) ∧ w'.cell? ⟨w.heap.size + 1, 1, none⟩ = some (.int .i64 j) ∧ w'.cell? ⟨w.heap.size + 1, 2, none⟩ = some (.string t)) (go_keep) (first
    | (go_at_call 47
       (with_reducible show Calls _ _ #[vl k i s] _ _)
       refine (CA.out _).mono ?_
       rintro e w1 ⟨rfl, hb1⟩
       have hb1' : Below W0.heap.size W0 w1 := ⟨hb1.os, hb1.tape, hb1.output, hb1.size, hb1.block⟩
       have a0 := (hb1'.cell (World.block_lt_of_cell? _ _ a0)).trans a0
       have a1 := (hb1'.cell (World.block_lt_of_cell? _ _ a1)).trans a1
       have a2 := (hb1'.cell (World.block_lt_of_cell? _ _ a2)).trans a2
       have b0 := (hb1'.cell (World.block_lt_of_cell? _ _ b0)).trans b0
       have b1 := (hb1'.cell (World.block_lt_of_cell? _ _ b1)).trans b1
       have b2 := (hb1'.cell (World.block_lt_of_cell? _ _ b2)).trans b2
       have H1 := hid (And.intro (blk_of hb1' HC.out (lt_of HC.out)) (below_on H0.out hb1'))
       clear hb1 hb1' CA)
    | (go_at_call 47
       refine (CB.out _).mono ?_
       rintro e w2 ⟨rfl, hb2⟩
       have a0 := (hb2.cell (World.block_lt_of_cell? _ _ a0)).trans a0
       have a1 := (hb2.cell (World.block_lt_of_cell? _ _ a1)).trans a1
       have a2 := (hb2.cell (World.block_lt_of_cell? _ _ a2)).trans a2
       have b0 := (hb2.cell (World.block_lt_of_cell? _ _ b0)).trans b0
       have b1 := (hb2.cell (World.block_lt_of_cell? _ _ b1)).trans b1
       have b2 := (hb2.cell (World.block_lt_of_cell? _ _ b2)).trans b2
       have H2 := hid (And.intro (blk_of hb2 H1.out.1 (lt_of H1.out.1)) (below_on H1.out.2 hb2))
       clear hb2))
  clear a0 a1 a2 b0 b1 b2 HB HC H0
  have hlen : ((ya ++ yb).length : Int) = (ya.length : Int) + yb.length := by simp
  have hmf : ∀ (fn : Fn) (first cap : Array Value) (w : World), (Instr.makeFunc fn first cap).run Try.prog w = .ok (.func fn first cap) w := fun _ _ _ _ => rfl
  have na60 := nilAhead62 vb
  have na62 := nilAhead62 va
  have mt60 := method62 vb
  have mt62 := method62 va
  go_wp2
  go_region_held (fun _ => True) (trivial) (first
    | (go_at_call 133
       (with_reducible show Calls _ _ _ w2.drew _)
       go_loud (
       refine (LA.out w2.heap.size (.slice none 0 0) [] w2.drew (owns_nil _ _) (by simp) ⟨H2.out.2.os, H2.out.2.tape, H2.out.2.output, H2.out.2.size, H2.out.2.block⟩ (by simp)).mono ?_
       rintro e w3 h3
       obtain ⟨v3, rfl, ho3, hb3⟩ := h3
       have hb3' : Below w2.heap.size w2 w3 := ⟨hb3.os, hb3.tape, hb3.output, hb3.size, hb3.block⟩
       have H3 := hid (And.intro ho3 hb3')
       clear ho3 hb3 hb3'))
    | (go_at_call 133
       (with_reducible show Calls _ _ _ w3 _)
       refine (LB.out w2.heap.size v3 ([] ++ ya) w3 H3.out.1 H3.out.2.size (below_on H2.out.2 H3.out.2) (by simp; omega)).mono ?_
       rintro e w4 h4
       obtain ⟨v4, rfl, ho4, hb4⟩ := h4
       obtain ⟨ao, cc, rfl⟩ := own_shape ho4
       have H4 := hid (join_behind H2.out H3.out.2 hb4 ho4)
       clear ho4 hb4))
  all_goals
    have hc := hid (sl_text (show Sl w4 (.slice ao (ya.length + yb.length) cc) (ya ++ yb) by simpa using H4.out.2.2))
    have g4 := hid H4.out.1
    obtain ⟨c0, c1, c2, ff⟩ := vfacts g4.out
    have hB4 := hid H4.out.2.1
    clear H4
    by_cases hlen : ((ya.length : Int) + yb.length) ≤ 256
    · have hj : joinV (ya ++ yb) = .tuple #[vl 2 0 (mkStr (ya ++ yb)), .int .i64 0] := by unfold joinV; rw [if_pos (by simp; omega)]
      have HJ := hid hj
      have hcv := hc.out
      clear hj
      go_wp2_with (
        go_at_call 48
        refine (tvalue_any _ _).mono ?_
        rintro e w5 ⟨rfl, hb5⟩
        have g5 := blk_of hb5 g4.out (lt_of g4.out)
        obtain ⟨c0, c1, c2, ff⟩ := vfacts g5
        have H5 := hid (And.intro g5 (below_on hB4.out hb5))
        clear hb5 g5)
      refine bodyPost_ret (ret_agg2 Try.results24 rfl (set3 H5.out.1 _ _ _)) rfl ?_
      exact ⟨by rw [HJ.out]; rfl, Below.set3 H5.out.2 (by omega) _ _ _⟩
    · have hj : joinV (ya ++ yb) = .tuple #[vl 0 0 emp, .int .i64 4] := by unfold joinV; rw [if_neg (by simp; omega)]
      have HJ := hid hj
      clear hj
      go_wp2
      refine bodyPost_ret (ret_agg2 Try.results24 rfl (set3 g4.out _ _ _)) rfl ?_
      exact ⟨by rw [HJ.out]; rfl, Below.set3 hB4.out (by omega) _ _ _⟩

set_option maxRecDepth 100000 in
set_option maxHeartbeats 1600000 in
theorem join_6062 (k i : Int) (s : ByteArray) (l j : Int) (t : ByteArray) (w : World) (va vb : Value) (ha : chd k i s = .iface 60 va) (hb : chd l j t = .iface 62 vb) (ya yb : List Int) (hla : Lays' 118 va ya w) (hlb : Lays' 133 vb yb w) (hy : ya.length ≤ 1000) (_hy2 : yb.length ≤ 1000) :
    Calls Try.prog 24 #[vl k i s, vl l j t] w fun e w' => e = .returned (joinV (ya ++ yb)) ∧ Below w.heap.size w w' := by
  obtain ⟨hA, hB, hC, h0⟩ := three w (vo k i s) (vo l j t) (vo 0 0 emp)
  have ca := checked_any k i s
  have cb := checked_any l j t
  rw [ha] at ca
  rw [hb] at cb
  have CA := hid ca
  have CB := hid cb
  have LA := hid hla
  have LB := hid hlb
  clear ca cb ha hb hla hlb
  go_enter Try.func24, Try.ntmps24
  go_wp2
  show Code.wp _ _ _ _ (((w.alloc (vo k i s)).alloc (vo l j t)).alloc (vo 0 0 emp))
  obtain ⟨W0, hW0⟩ : ∃ W0, W0 = (((w.alloc (vo k i s)).alloc (vo l j t)).alloc (vo 0 0 emp)) := ⟨_, rfl⟩
  rw [← hW0] at hA hB hC h0 ⊢
  clear hW0
  obtain ⟨a0, a1, a2, -⟩ := vfacts hA
  obtain ⟨b0, b1, b2, -⟩ := vfacts hB
  have HB := hid hB
  have HC := hid hC
  have H0 := hid h0
  clear hA hB hC h0
  go_region_held (fun w' => w'.cell? ⟨w.heap.size, 0, none⟩ = some (.int .i64 k) ∧ w'.cell? ⟨w.heap.size, 1, none⟩ = some (.int .i64 i) ∧ w'.cell? ⟨w.heap.size, 2, none⟩ = some (.string s) ∧ w'.cell? ⟨w.heap.size + 1, 0, none⟩ = some (.int .i64 l) ∧ w'.cell? ⟨w.heap.size + 1, 1, none⟩ = some (.int .i64 j) ∧ w'.cell? ⟨w.heap.size + 1, 2, none⟩ = some (.string t)) (go_keep) (first
    | (go_at_call 47
       (with_reducible show Calls _ _ #[vl k i s] _ _)
       refine (CA.out _).mono ?_
       rintro e w1 ⟨rfl, hb1⟩
       have hb1' : Below W0.heap.size W0 w1 := ⟨hb1.os, hb1.tape, hb1.output, hb1.size, hb1.block⟩
       have a0 := (hb1'.cell (World.block_lt_of_cell? _ _ a0)).trans a0
       have a1 := (hb1'.cell (World.block_lt_of_cell? _ _ a1)).trans a1
       have a2 := (hb1'.cell (World.block_lt_of_cell? _ _ a2)).trans a2
       have b0 := (hb1'.cell (World.block_lt_of_cell? _ _ b0)).trans b0
       have b1 := (hb1'.cell (World.block_lt_of_cell? _ _ b1)).trans b1
       have b2 := (hb1'.cell (World.block_lt_of_cell? _ _ b2)).trans b2
       have H1 := hid (And.intro (blk_of hb1' HC.out (lt_of HC.out)) (below_on H0.out hb1'))
       clear hb1 hb1' CA)
    | (go_at_call 47
       refine (CB.out _).mono ?_
       rintro e w2 ⟨rfl, hb2⟩
       have a0 := (hb2.cell (World.block_lt_of_cell? _ _ a0)).trans a0
       have a1 := (hb2.cell (World.block_lt_of_cell? _ _ a1)).trans a1
       have a2 := (hb2.cell (World.block_lt_of_cell? _ _ a2)).trans a2
       have b0 := (hb2.cell (World.block_lt_of_cell? _ _ b0)).trans b0
       have b1 := (hb2.cell (World.block_lt_of_cell? _ _ b1)).trans b1
       have b2 := (hb2.cell (World.block_lt_of_cell? _ _ b2)).trans b2
       have H2 := hid (And.intro (blk_of hb2 H1.out.1 (lt_of H1.out.1)) (below_on H1.out.2 hb2))
       clear hb2))
  clear a0 a1 a2 b0 b1 b2 HB HC H0
  have hlen : ((ya ++ yb).length : Int) = (ya.length : Int) + yb.length := by simp
  have hmf : ∀ (fn : Fn) (first cap : Array Value) (w : World), (Instr.makeFunc fn first cap).run Try.prog w = .ok (.func fn first cap) w := fun _ _ _ _ => rfl
  have na60 := nilAhead62 vb
  have na62 := nilAhead60 va
  have mt60 := method62 vb
  have mt62 := method60 va
  go_wp2
  go_region_held (fun _ => True) (trivial) (first
    | (go_at_call 118
       (with_reducible show Calls _ _ _ w2.drew _)
       go_loud (
       refine (LA.out w2.heap.size (.slice none 0 0) [] w2.drew (owns_nil _ _) (by simp) ⟨H2.out.2.os, H2.out.2.tape, H2.out.2.output, H2.out.2.size, H2.out.2.block⟩ (by simp)).mono ?_
       rintro e w3 h3
       obtain ⟨v3, rfl, ho3, hb3⟩ := h3
       have hb3' : Below w2.heap.size w2 w3 := ⟨hb3.os, hb3.tape, hb3.output, hb3.size, hb3.block⟩
       have H3 := hid (And.intro ho3 hb3')
       clear ho3 hb3 hb3'))
    | (go_at_call 133
       (with_reducible show Calls _ _ _ w3 _)
       refine (LB.out w2.heap.size v3 ([] ++ ya) w3 H3.out.1 H3.out.2.size (below_on H2.out.2 H3.out.2) (by simp; omega)).mono ?_
       rintro e w4 h4
       obtain ⟨v4, rfl, ho4, hb4⟩ := h4
       obtain ⟨ao, cc, rfl⟩ := own_shape ho4
       have H4 := hid (join_behind H2.out H3.out.2 hb4 ho4)
       clear ho4 hb4))
  all_goals
    have hc := hid (sl_text (show Sl w4 (.slice ao (ya.length + yb.length) cc) (ya ++ yb) by simpa using H4.out.2.2))
    have g4 := hid H4.out.1
    obtain ⟨c0, c1, c2, ff⟩ := vfacts g4.out
    have hB4 := hid H4.out.2.1
    clear H4
    by_cases hlen : ((ya.length : Int) + yb.length) ≤ 256
    · have hj : joinV (ya ++ yb) = .tuple #[vl 2 0 (mkStr (ya ++ yb)), .int .i64 0] := by unfold joinV; rw [if_pos (by simp; omega)]
      have HJ := hid hj
      have hcv := hc.out
      clear hj
      go_wp2_with (
        go_at_call 48
        refine (tvalue_any _ _).mono ?_
        rintro e w5 ⟨rfl, hb5⟩
        have g5 := blk_of hb5 g4.out (lt_of g4.out)
        obtain ⟨c0, c1, c2, ff⟩ := vfacts g5
        have H5 := hid (And.intro g5 (below_on hB4.out hb5))
        clear hb5 g5)
      refine bodyPost_ret (ret_agg2 Try.results24 rfl (set3 H5.out.1 _ _ _)) rfl ?_
      exact ⟨by rw [HJ.out]; rfl, Below.set3 H5.out.2 (by omega) _ _ _⟩
    · have hj : joinV (ya ++ yb) = .tuple #[vl 0 0 emp, .int .i64 4] := by unfold joinV; rw [if_neg (by simp; omega)]
      have HJ := hid hj
      clear hj
      go_wp2
      refine bodyPost_ret (ret_agg2 Try.results24 rfl (set3 g4.out _ _ _)) rfl ?_
      exact ⟨by rw [HJ.out]; rfl, Below.set3 hB4.out (by omega) _ _ _⟩

set_option maxRecDepth 100000 in
set_option maxHeartbeats 1600000 in
theorem join_6060 (k i : Int) (s : ByteArray) (l j : Int) (t : ByteArray) (w : World) (va vb : Value) (ha : chd k i s = .iface 60 va) (hb : chd l j t = .iface 60 vb) (ya yb : List Int) (hla : Lays' 118 va ya w) (hlb : Lays' 118 vb yb w) (hy : ya.length ≤ 1000) (_hy2 : yb.length ≤ 1000) :
    Calls Try.prog 24 #[vl k i s, vl l j t] w fun e w' => e = .returned (joinV (ya ++ yb)) ∧ Below w.heap.size w w' := by
  obtain ⟨hA, hB, hC, h0⟩ := three w (vo k i s) (vo l j t) (vo 0 0 emp)
  have ca := checked_any k i s
  have cb := checked_any l j t
  rw [ha] at ca
  rw [hb] at cb
  have CA := hid ca
  have CB := hid cb
  have LA := hid hla
  have LB := hid hlb
  clear ca cb ha hb hla hlb
  go_enter Try.func24, Try.ntmps24
  go_wp2
  show Code.wp _ _ _ _ (((w.alloc (vo k i s)).alloc (vo l j t)).alloc (vo 0 0 emp))
  obtain ⟨W0, hW0⟩ : ∃ W0, W0 = (((w.alloc (vo k i s)).alloc (vo l j t)).alloc (vo 0 0 emp)) := ⟨_, rfl⟩
  rw [← hW0] at hA hB hC h0 ⊢
  clear hW0
  obtain ⟨a0, a1, a2, -⟩ := vfacts hA
  obtain ⟨b0, b1, b2, -⟩ := vfacts hB
  have HB := hid hB
  have HC := hid hC
  have H0 := hid h0
  clear hA hB hC h0
  go_region_held (fun w' => w'.cell? ⟨w.heap.size, 0, none⟩ = some (.int .i64 k) ∧ w'.cell? ⟨w.heap.size, 1, none⟩ = some (.int .i64 i) ∧ w'.cell? ⟨w.heap.size, 2, none⟩ = some (.string s) ∧ w'.cell? ⟨w.heap.size + 1, 0, none⟩ = some (.int .i64 l) ∧ w'.cell? ⟨w.heap.size + 1, 1, none⟩ = some (.int .i64 j) ∧ w'.cell? ⟨w.heap.size + 1, 2, none⟩ = some (.string t)) (go_keep) (first
    | (go_at_call 47
       (with_reducible show Calls _ _ #[vl k i s] _ _)
       refine (CA.out _).mono ?_
       rintro e w1 ⟨rfl, hb1⟩
       have hb1' : Below W0.heap.size W0 w1 := ⟨hb1.os, hb1.tape, hb1.output, hb1.size, hb1.block⟩
       have a0 := (hb1'.cell (World.block_lt_of_cell? _ _ a0)).trans a0
       have a1 := (hb1'.cell (World.block_lt_of_cell? _ _ a1)).trans a1
       have a2 := (hb1'.cell (World.block_lt_of_cell? _ _ a2)).trans a2
       have b0 := (hb1'.cell (World.block_lt_of_cell? _ _ b0)).trans b0
       have b1 := (hb1'.cell (World.block_lt_of_cell? _ _ b1)).trans b1
       have b2 := (hb1'.cell (World.block_lt_of_cell? _ _ b2)).trans b2
       have H1 := hid (And.intro (blk_of hb1' HC.out (lt_of HC.out)) (below_on H0.out hb1'))
       clear hb1 hb1' CA)
    | (go_at_call 47
       refine (CB.out _).mono ?_
       rintro e w2 ⟨rfl, hb2⟩
       have a0 := (hb2.cell (World.block_lt_of_cell? _ _ a0)).trans a0
       have a1 := (hb2.cell (World.block_lt_of_cell? _ _ a1)).trans a1
       have a2 := (hb2.cell (World.block_lt_of_cell? _ _ a2)).trans a2
       have b0 := (hb2.cell (World.block_lt_of_cell? _ _ b0)).trans b0
       have b1 := (hb2.cell (World.block_lt_of_cell? _ _ b1)).trans b1
       have b2 := (hb2.cell (World.block_lt_of_cell? _ _ b2)).trans b2
       have H2 := hid (And.intro (blk_of hb2 H1.out.1 (lt_of H1.out.1)) (below_on H1.out.2 hb2))
       clear hb2))
  clear a0 a1 a2 b0 b1 b2 HB HC H0
  have hlen : ((ya ++ yb).length : Int) = (ya.length : Int) + yb.length := by simp
  have hmf : ∀ (fn : Fn) (first cap : Array Value) (w : World), (Instr.makeFunc fn first cap).run Try.prog w = .ok (.func fn first cap) w := fun _ _ _ _ => rfl
  have na60 := nilAhead60 vb
  have na62 := nilAhead60 va
  have mt60 := method60 vb
  have mt62 := method60 va
  go_wp2
  go_region_held (fun _ => True) (trivial) (first
    | (go_at_call 118
       (with_reducible show Calls _ _ _ w2.drew _)
       go_loud (
       refine (LA.out w2.heap.size (.slice none 0 0) [] w2.drew (owns_nil _ _) (by simp) ⟨H2.out.2.os, H2.out.2.tape, H2.out.2.output, H2.out.2.size, H2.out.2.block⟩ (by simp)).mono ?_
       rintro e w3 h3
       obtain ⟨v3, rfl, ho3, hb3⟩ := h3
       have hb3' : Below w2.heap.size w2 w3 := ⟨hb3.os, hb3.tape, hb3.output, hb3.size, hb3.block⟩
       have H3 := hid (And.intro ho3 hb3')
       clear ho3 hb3 hb3'))
    | (go_at_call 118
       (with_reducible show Calls _ _ _ w3 _)
       refine (LB.out w2.heap.size v3 ([] ++ ya) w3 H3.out.1 H3.out.2.size (below_on H2.out.2 H3.out.2) (by simp; omega)).mono ?_
       rintro e w4 h4
       obtain ⟨v4, rfl, ho4, hb4⟩ := h4
       obtain ⟨ao, cc, rfl⟩ := own_shape ho4
       have H4 := hid (join_behind H2.out H3.out.2 hb4 ho4)
       clear ho4 hb4))
  all_goals
    have hc := hid (sl_text (show Sl w4 (.slice ao (ya.length + yb.length) cc) (ya ++ yb) by simpa using H4.out.2.2))
    have g4 := hid H4.out.1
    obtain ⟨c0, c1, c2, ff⟩ := vfacts g4.out
    have hB4 := hid H4.out.2.1
    clear H4
    by_cases hlen : ((ya.length : Int) + yb.length) ≤ 256
    · have hj : joinV (ya ++ yb) = .tuple #[vl 2 0 (mkStr (ya ++ yb)), .int .i64 0] := by unfold joinV; rw [if_pos (by simp; omega)]
      have HJ := hid hj
      have hcv := hc.out
      clear hj
      go_wp2_with (
        go_at_call 48
        refine (tvalue_any _ _).mono ?_
        rintro e w5 ⟨rfl, hb5⟩
        have g5 := blk_of hb5 g4.out (lt_of g4.out)
        obtain ⟨c0, c1, c2, ff⟩ := vfacts g5
        have H5 := hid (And.intro g5 (below_on hB4.out hb5))
        clear hb5 g5)
      refine bodyPost_ret (ret_agg2 Try.results24 rfl (set3 H5.out.1 _ _ _)) rfl ?_
      exact ⟨by rw [HJ.out]; rfl, Below.set3 H5.out.2 (by omega) _ _ _⟩
    · have hj : joinV (ya ++ yb) = .tuple #[vl 0 0 emp, .int .i64 4] := by unfold joinV; rw [if_neg (by simp; omega)]
      have HJ := hid hj
      clear hj
      go_wp2
      refine bodyPost_ret (ret_agg2 Try.results24 rfl (set3 g4.out _ _ _)) rfl ?_
      exact ⟨by rw [HJ.out]; rfl, Below.set3 hB4.out (by omega) _ _ _⟩

end Go.Proofs.Ytiammlngbejhkaa

namespace Go.Proofs.Ytiammlngbejhkaa
open Go.RowKit Go.Lib

set_option maxRecDepth 100000 in
set_option maxHeartbeats 1600000 in
theorem join_nil_ (k i : Int) (s : ByteArray) (l j : Int) (t : ByteArray) (w : World) (ha : chd k i s = .nilIface) :
    Calls Try.prog 24 #[vl k i s, vl l j t] w fun e w' => e = .returned (.tuple #[vl 0 0 emp, .int .i64 14]) ∧ Below w.heap.size w w' := by
  obtain ⟨hA, hB, hC, h0⟩ := three w (vo k i s) (vo l j t) (vo 0 0 emp)
  have ca := checked_any k i s
  have cb := checked_any l j t
  rw [ha] at ca
  obtain ⟨cbv, hcb⟩ : ∃ cbv, cbv = chd l j t := ⟨_, rfl⟩
  rw [← hcb] at cb
  clear hcb
  have CA := hid ca
  have CB := hid cb
  clear ca cb ha
  go_enter Try.func24, Try.ntmps24
  go_wp2
  show Code.wp _ _ _ _ (((w.alloc (vo k i s)).alloc (vo l j t)).alloc (vo 0 0 emp))
  obtain ⟨W0, hW0⟩ : ∃ W0, W0 = (((w.alloc (vo k i s)).alloc (vo l j t)).alloc (vo 0 0 emp)) := ⟨_, rfl⟩
  rw [← hW0] at hA hB hC h0 ⊢
  clear hW0
  obtain ⟨a0, a1, a2, -⟩ := vfacts hA
  obtain ⟨b0, b1, b2, -⟩ := vfacts hB
  have HB := hid hB
  have HC := hid hC
  have H0 := hid h0
  clear hA hB hC h0
  go_region_held (fun w' => w'.cell? ⟨w.heap.size, 0, none⟩ = some (.int .i64 k) ∧ w'.cell? ⟨w.heap.size, 1, none⟩ = some (.int .i64 i) ∧ w'.cell? ⟨w.heap.size, 2, none⟩ = some (.string s) ∧ w'.cell? ⟨w.heap.size + 1, 0, none⟩ = some (.int .i64 l) ∧ w'.cell? ⟨w.heap.size + 1, 1, none⟩ = some (.int .i64 j) ∧ w'.cell? ⟨w.heap.size + 1, 2, none⟩ = some (.string t)) (go_keep) (first
    | (go_at_call 47
       (with_reducible show Calls _ _ #[vl k i s] _ _)
       refine (CA.out _).mono ?_
       rintro e w1 ⟨rfl, hb1⟩
       have hb1' : Below W0.heap.size W0 w1 := ⟨hb1.os, hb1.tape, hb1.output, hb1.size, hb1.block⟩
       have a0 := (hb1'.cell (World.block_lt_of_cell? _ _ a0)).trans a0
       have a1 := (hb1'.cell (World.block_lt_of_cell? _ _ a1)).trans a1
       have a2 := (hb1'.cell (World.block_lt_of_cell? _ _ a2)).trans a2
       have b0 := (hb1'.cell (World.block_lt_of_cell? _ _ b0)).trans b0
       have b1 := (hb1'.cell (World.block_lt_of_cell? _ _ b1)).trans b1
       have b2 := (hb1'.cell (World.block_lt_of_cell? _ _ b2)).trans b2
       have H1 := hid (And.intro (blk_of hb1' HC.out (lt_of HC.out)) (below_on H0.out hb1'))
       clear hb1 hb1' CA)
    | (go_at_call 47
       refine (CB.out _).mono ?_
       rintro e w2 ⟨rfl, hb2⟩
       have a0 := (hb2.cell (World.block_lt_of_cell? _ _ a0)).trans a0
       have a1 := (hb2.cell (World.block_lt_of_cell? _ _ a1)).trans a1
       have a2 := (hb2.cell (World.block_lt_of_cell? _ _ a2)).trans a2
       have b0 := (hb2.cell (World.block_lt_of_cell? _ _ b0)).trans b0
       have b1 := (hb2.cell (World.block_lt_of_cell? _ _ b1)).trans b1
       have b2 := (hb2.cell (World.block_lt_of_cell? _ _ b2)).trans b2
       have H2 := hid (And.intro (blk_of hb2 H1.out.1 (lt_of H1.out.1)) (below_on H1.out.2 hb2))
       clear hb2))
  obtain ⟨r0, r1, r2, fr⟩ := vfacts H2.out.1
  go_wp2
  refine bodyPost_ret (ret_agg2 Try.results24 rfl (set3 H2.out.1 _ _ _)) rfl ?_
  exact ⟨rfl, Below.set3 H2.out.2 (by omega) _ _ _⟩

set_option maxRecDepth 100000 in
set_option maxHeartbeats 1600000 in
theorem join_60_nil (k i : Int) (s : ByteArray) (l j : Int) (t : ByteArray) (w : World) (va : Value) (ha : chd k i s = .iface 60 va) (hb : chd l j t = .nilIface) :
    Calls Try.prog 24 #[vl k i s, vl l j t] w fun e w' => e = .returned (.tuple #[vl 0 0 emp, .int .i64 14]) ∧ Below w.heap.size w w' := by
  obtain ⟨hA, hB, hC, h0⟩ := three w (vo k i s) (vo l j t) (vo 0 0 emp)
  have ca := checked_any k i s
  have cb := checked_any l j t
  rw [ha] at ca
  rw [hb] at cb
  have CA := hid ca
  have CB := hid cb
  clear ca cb ha hb
  go_enter Try.func24, Try.ntmps24
  go_wp2
  show Code.wp _ _ _ _ (((w.alloc (vo k i s)).alloc (vo l j t)).alloc (vo 0 0 emp))
  obtain ⟨W0, hW0⟩ : ∃ W0, W0 = (((w.alloc (vo k i s)).alloc (vo l j t)).alloc (vo 0 0 emp)) := ⟨_, rfl⟩
  rw [← hW0] at hA hB hC h0 ⊢
  clear hW0
  obtain ⟨a0, a1, a2, -⟩ := vfacts hA
  obtain ⟨b0, b1, b2, -⟩ := vfacts hB
  have HB := hid hB
  have HC := hid hC
  have H0 := hid h0
  clear hA hB hC h0
  go_region_held (fun w' => w'.cell? ⟨w.heap.size, 0, none⟩ = some (.int .i64 k) ∧ w'.cell? ⟨w.heap.size, 1, none⟩ = some (.int .i64 i) ∧ w'.cell? ⟨w.heap.size, 2, none⟩ = some (.string s) ∧ w'.cell? ⟨w.heap.size + 1, 0, none⟩ = some (.int .i64 l) ∧ w'.cell? ⟨w.heap.size + 1, 1, none⟩ = some (.int .i64 j) ∧ w'.cell? ⟨w.heap.size + 1, 2, none⟩ = some (.string t)) (go_keep) (first
    | (go_at_call 47
       (with_reducible show Calls _ _ #[vl k i s] _ _)
       refine (CA.out _).mono ?_
       rintro e w1 ⟨rfl, hb1⟩
       have hb1' : Below W0.heap.size W0 w1 := ⟨hb1.os, hb1.tape, hb1.output, hb1.size, hb1.block⟩
       have a0 := (hb1'.cell (World.block_lt_of_cell? _ _ a0)).trans a0
       have a1 := (hb1'.cell (World.block_lt_of_cell? _ _ a1)).trans a1
       have a2 := (hb1'.cell (World.block_lt_of_cell? _ _ a2)).trans a2
       have b0 := (hb1'.cell (World.block_lt_of_cell? _ _ b0)).trans b0
       have b1 := (hb1'.cell (World.block_lt_of_cell? _ _ b1)).trans b1
       have b2 := (hb1'.cell (World.block_lt_of_cell? _ _ b2)).trans b2
       have H1 := hid (And.intro (blk_of hb1' HC.out (lt_of HC.out)) (below_on H0.out hb1'))
       clear hb1 hb1' CA)
    | (go_at_call 47
       refine (CB.out _).mono ?_
       rintro e w2 ⟨rfl, hb2⟩
       have a0 := (hb2.cell (World.block_lt_of_cell? _ _ a0)).trans a0
       have a1 := (hb2.cell (World.block_lt_of_cell? _ _ a1)).trans a1
       have a2 := (hb2.cell (World.block_lt_of_cell? _ _ a2)).trans a2
       have b0 := (hb2.cell (World.block_lt_of_cell? _ _ b0)).trans b0
       have b1 := (hb2.cell (World.block_lt_of_cell? _ _ b1)).trans b1
       have b2 := (hb2.cell (World.block_lt_of_cell? _ _ b2)).trans b2
       have H2 := hid (And.intro (blk_of hb2 H1.out.1 (lt_of H1.out.1)) (below_on H1.out.2 hb2))
       clear hb2))
  obtain ⟨r0, r1, r2, fr⟩ := vfacts H2.out.1
  go_wp2
  refine bodyPost_ret (ret_agg2 Try.results24 rfl (set3 H2.out.1 _ _ _)) rfl ?_
  exact ⟨rfl, Below.set3 H2.out.2 (by omega) _ _ _⟩

set_option maxRecDepth 100000 in
set_option maxHeartbeats 1600000 in
theorem join_62_nil (k i : Int) (s : ByteArray) (l j : Int) (t : ByteArray) (w : World) (va : Value) (ha : chd k i s = .iface 62 va) (hb : chd l j t = .nilIface) :
    Calls Try.prog 24 #[vl k i s, vl l j t] w fun e w' => e = .returned (.tuple #[vl 0 0 emp, .int .i64 14]) ∧ Below w.heap.size w w' := by
  obtain ⟨hA, hB, hC, h0⟩ := three w (vo k i s) (vo l j t) (vo 0 0 emp)
  have ca := checked_any k i s
  have cb := checked_any l j t
  rw [ha] at ca
  rw [hb] at cb
  have CA := hid ca
  have CB := hid cb
  clear ca cb ha hb
  go_enter Try.func24, Try.ntmps24
  go_wp2
  show Code.wp _ _ _ _ (((w.alloc (vo k i s)).alloc (vo l j t)).alloc (vo 0 0 emp))
  obtain ⟨W0, hW0⟩ : ∃ W0, W0 = (((w.alloc (vo k i s)).alloc (vo l j t)).alloc (vo 0 0 emp)) := ⟨_, rfl⟩
  rw [← hW0] at hA hB hC h0 ⊢
  clear hW0
  obtain ⟨a0, a1, a2, -⟩ := vfacts hA
  obtain ⟨b0, b1, b2, -⟩ := vfacts hB
  have HB := hid hB
  have HC := hid hC
  have H0 := hid h0
  clear hA hB hC h0
  go_region_held (fun w' => w'.cell? ⟨w.heap.size, 0, none⟩ = some (.int .i64 k) ∧ w'.cell? ⟨w.heap.size, 1, none⟩ = some (.int .i64 i) ∧ w'.cell? ⟨w.heap.size, 2, none⟩ = some (.string s) ∧ w'.cell? ⟨w.heap.size + 1, 0, none⟩ = some (.int .i64 l) ∧ w'.cell? ⟨w.heap.size + 1, 1, none⟩ = some (.int .i64 j) ∧ w'.cell? ⟨w.heap.size + 1, 2, none⟩ = some (.string t)) (go_keep) (first
    | (go_at_call 47
       (with_reducible show Calls _ _ #[vl k i s] _ _)
       refine (CA.out _).mono ?_
       rintro e w1 ⟨rfl, hb1⟩
       have hb1' : Below W0.heap.size W0 w1 := ⟨hb1.os, hb1.tape, hb1.output, hb1.size, hb1.block⟩
       have a0 := (hb1'.cell (World.block_lt_of_cell? _ _ a0)).trans a0
       have a1 := (hb1'.cell (World.block_lt_of_cell? _ _ a1)).trans a1
       have a2 := (hb1'.cell (World.block_lt_of_cell? _ _ a2)).trans a2
       have b0 := (hb1'.cell (World.block_lt_of_cell? _ _ b0)).trans b0
       have b1 := (hb1'.cell (World.block_lt_of_cell? _ _ b1)).trans b1
       have b2 := (hb1'.cell (World.block_lt_of_cell? _ _ b2)).trans b2
       have H1 := hid (And.intro (blk_of hb1' HC.out (lt_of HC.out)) (below_on H0.out hb1'))
       clear hb1 hb1' CA)
    | (go_at_call 47
       refine (CB.out _).mono ?_
       rintro e w2 ⟨rfl, hb2⟩
       have a0 := (hb2.cell (World.block_lt_of_cell? _ _ a0)).trans a0
       have a1 := (hb2.cell (World.block_lt_of_cell? _ _ a1)).trans a1
       have a2 := (hb2.cell (World.block_lt_of_cell? _ _ a2)).trans a2
       have b0 := (hb2.cell (World.block_lt_of_cell? _ _ b0)).trans b0
       have b1 := (hb2.cell (World.block_lt_of_cell? _ _ b1)).trans b1
       have b2 := (hb2.cell (World.block_lt_of_cell? _ _ b2)).trans b2
       have H2 := hid (And.intro (blk_of hb2 H1.out.1 (lt_of H1.out.1)) (below_on H1.out.2 hb2))
       clear hb2))
  obtain ⟨r0, r1, r2, fr⟩ := vfacts H2.out.1
  go_wp2
  refine bodyPost_ret (ret_agg2 Try.results24 rfl (set3 H2.out.1 _ _ _)) rfl ?_
  exact ⟨rfl, Below.set3 H2.out.2 (by omega) _ _ _⟩

end Go.Proofs.Ytiammlngbejhkaa

namespace Go.Proofs.Ytiammlngbejhkaa
open Go.RowKit

theorem strBs_mkStr (l : List Int) (h : Oct l) : strBs (mkStr l) = l := by
  unfold mkStr strBs
  simp only [List.map_map]
  conv => rhs; rw [← List.map_id l]
  apply List.map_congr_left
  intro x hx
  have := h x hx
  simp only [Function.comp, id]
  rw [UInt8.toNat_ofNat']
  omega

theorem mkStr_size (l : List Int) : (mkStr l).size = l.length := by
  unfold mkStr ByteArray.size
  simp

theorem oct_str (s : ByteArray) : Oct (strBs s) := by
  intro x hx
  unfold strBs at hx
  obtain ⟨b, _, rfl⟩ := List.mem_map.1 hx
  have := b.toNat_lt
  omega

end Go.Proofs.Ytiammlngbejhkaa

namespace Go.Proofs.Ytiammlngbejhkaa
open Go.RowKit

/-- How integers are laid in worlds that came of w0: dig i, at most 21 bytes. -/
def Digs (dig : Int → List Int) (w0 : World) : Prop := ∀ i, -9223372036854775808 ≤ i → i ≤ 9223372036854775807 → Lays' 118 (.int .i64 i) (dig i) w0 ∧ (dig i).length ≤ 21 ∧ Oct (dig i)

theorem Digs.below {dig : Int → List Int} {w0 w1 : World} (h : Digs dig w0) (hb : Below w0.heap.size w0 w1) : Digs dig w1 := by
  intro i h0 h1
  obtain ⟨hl, h2, h3⟩ := h i h0 h1
  refine ⟨?_, h2, h3⟩
  intro B v xs w ho hB hw hx
  exact hl B v xs w ho hB (below_on hb hw) hx

/-- What a value is as a text. -/
def txt (dig : Int → List Int) (k i : Int) (s : ByteArray) : Option (List Int) := if k = 1 ∧ s = emp then some (dig i) else if k = 2 ∧ i = 0 ∧ s.size ≤ 256 then some (strBs s) else none

/-- What Join answers. -/
def joinT (a b : Option (List Int)) : Value := match a, b with
  | some x, some y => joinV (x ++ y)
  | _, _ => .tuple #[vl 0 0 emp, .int .i64 14]

theorem tlays (s : ByteArray) (w : World) (hs : s.size ≤ 256) : Lays' 133 (.string s) (strBs s) w := by
  intro B v xs w ho hB _ hx
  exact tlay_any B v xs s w ho hB (by omega)

theorem join_any (dig : Int → List Int) (k i : Int) (s : ByteArray) (l j : Int) (t : ByteArray) (w : World) (hd : Digs dig w) (hi0 : -9223372036854775808 ≤ i) (hi1 : i ≤ 9223372036854775807) (hj0 : -9223372036854775808 ≤ j) (hj1 : j ≤ 9223372036854775807) :
    Calls Try.prog 24 #[vl k i s, vl l j t] w fun e w' => e = .returned (joinT (txt dig k i s) (txt dig l j t)) ∧ Below w.heap.size w w' := by
  have di := hd i hi0 hi1
  have dj := hd j hj0 hj1
  have hsl := strBs_len s
  have htl := strBs_len t
  rcases chd_cases k i s with ⟨k1, s1, ha⟩ | ⟨k2, i2, s2, ha⟩ | ⟨ha, n1, n2⟩
  · have ta : txt dig k i s = some (dig i) := by unfold txt; rw [if_pos ⟨k1, s1⟩]
    rcases chd_cases l j t with ⟨l1, t1, hb⟩ | ⟨l2, j2, t2, hb⟩ | ⟨hb, m1, m2⟩
    · have tb : txt dig l j t = some (dig j) := by unfold txt; rw [if_pos ⟨l1, t1⟩]
      rw [ta, tb]
      exact join_6060 k i s l j t w _ _ ha hb _ _ di.1 dj.1 (by omega) (by omega)
    · have tb : txt dig l j t = some (strBs t) := by unfold txt; rw [if_neg (by omega), if_pos ⟨l2, j2, t2⟩]
      rw [ta, tb]
      exact join_6062 k i s l j t w _ _ ha hb _ _ di.1 (tlays t w t2) (by omega) (by omega)
    · have tb : txt dig l j t = none := by unfold txt; rw [if_neg m1, if_neg m2]
      rw [ta, tb]
      exact join_60_nil k i s l j t w _ ha hb
  · have ta : txt dig k i s = some (strBs s) := by unfold txt; rw [if_neg (by omega), if_pos ⟨k2, i2, s2⟩]
    rcases chd_cases l j t with ⟨l1, t1, hb⟩ | ⟨l2, j2, t2, hb⟩ | ⟨hb, m1, m2⟩
    · have tb : txt dig l j t = some (dig j) := by unfold txt; rw [if_pos ⟨l1, t1⟩]
      rw [ta, tb]
      exact join_6260 k i s l j t w _ _ ha hb _ _ (tlays s w s2) dj.1 (by omega) (by omega)
    · have tb : txt dig l j t = some (strBs t) := by unfold txt; rw [if_neg (by omega), if_pos ⟨l2, j2, t2⟩]
      rw [ta, tb]
      exact join_6262 k i s l j t w _ _ ha hb _ _ (tlays s w s2) (tlays t w t2) (by omega) (by omega)
    · have tb : txt dig l j t = none := by unfold txt; rw [if_neg m1, if_neg m2]
      rw [ta, tb]
      exact join_62_nil k i s l j t w _ ha hb
  · have ta : txt dig k i s = none := by unfold txt; rw [if_neg n1, if_neg n2]
    rw [ta]
    exact join_nil_ k i s l j t w ha

/-- A join is a text of its own. -/
theorem txt_join (dig : Int → List Int) (zs : List Int) (ho : Oct zs) (hl : zs.length ≤ 256) : txt dig 2 0 (mkStr zs) = some zs := by
  have hsz := mkStr_size zs
  unfold txt
  rw [if_neg (by omega), if_pos ⟨rfl, rfl, by omega⟩, strBs_mkStr zs ho]

end Go.Proofs.Ytiammlngbejhkaa

namespace Go.Proofs.Ytiammlngbejhkaa
open Go.RowKit

/-- What Join answers in every world that came of w. -/
def Jn (w : World) (a b v : Value) : Prop := ∀ W, Below w.heap.size w W → Calls Try.prog 24 #[a, b] W fun z w' => z = .returned v ∧ Below W.heap.size W w'

theorem joinV_shape (zs : List Int) : ∃ k i s e, joinV zs = .tuple #[vl k i s, .int .i64 e] ∧ (e = 0 ∨ e = 4) := by
  unfold joinV
  split
  · exact ⟨_, _, _, _, rfl, .inl rfl⟩
  · exact ⟨_, _, _, _, rfl, .inr rfl⟩

theorem joinT_cases (a b : Option (List Int)) : (∃ k i s e, joinT a b = .tuple #[vl k i s, .int .i64 e] ∧ (e == 0) = false) ∨ ∃ x y, a = some x ∧ b = some y ∧ (x ++ y).length ≤ 256 ∧ joinT a b = .tuple #[vl 2 0 (mkStr (x ++ y)), .int .i64 0] := by
  rcases a with _ | x
  · exact .inl ⟨_, _, _, _, rfl, rfl⟩
  · rcases b with _ | y
    · exact .inl ⟨_, _, _, _, rfl, rfl⟩
    · by_cases h : (x ++ y).length ≤ 256
      · refine .inr ⟨x, y, rfl, rfl, h, ?_⟩
        show joinV (x ++ y) = _
        unfold joinV
        rw [if_pos h]
      · refine .inl ⟨0, 0, emp, 4, ?_, rfl⟩
        show joinV (x ++ y) = _
        unfold joinV
        rw [if_neg h]

theorem txt_oct {dig : Int → List Int} {w : World} (hd : Digs dig w) {k i : Int} {s : ByteArray} (h0 : -9223372036854775808 ≤ i) (h1 : i ≤ 9223372036854775807) {x : List Int} (h : txt dig k i s = some x) : Oct x := by
  unfold txt at h
  split at h
  · injection h with h
    subst h
    exact (hd i h0 h1).2.2
  · split at h
    · injection h with h
      subst h
      exact oct_str s
    · cases h

theorem oct_app {x y : List Int} (hx : Oct x) (hy : Oct y) : Oct (x ++ y) := by
  intro b hb
  rcases List.mem_append.1 hb with h | h
  · exact hx b h
  · exact hy b h

theorem joins_cases (dig : Int → List Int) (w : World) (hd : Digs dig w) (ka ia : Int) (sa : ByteArray) (kb ib : Int) (sb : ByteArray) (kc ic : Int) (sc : ByteArray) (a0 : -9223372036854775808 ≤ ia) (a1 : ia ≤ 9223372036854775807) (b0 : -9223372036854775808 ≤ ib) (b1 : ib ≤ 9223372036854775807) (c0 : -9223372036854775808 ≤ ic) (c1 : ic ≤ 9223372036854775807) :
    (∃ k1 i1 s1 e1 k2 i2 s2 e2, (e1 == 0) = false ∧ Jn w (vl ka ia sa) (vl kb ib sb) (.tuple #[vl k1 i1 s1, .int .i64 e1]) ∧ Jn w (vl kb ib sb) (vl kc ic sc) (.tuple #[vl k2 i2 s2, .int .i64 e2])) ∨
    (∃ k1 i1 s1 k2 i2 s2 e2, (e2 == 0) = false ∧ Jn w (vl ka ia sa) (vl kb ib sb) (.tuple #[vl k1 i1 s1, .int .i64 0]) ∧ Jn w (vl kb ib sb) (vl kc ic sc) (.tuple #[vl k2 i2 s2, .int .i64 e2])) ∨
    (∃ k1 i1 s1 k2 i2 s2 k3 i3 s3 e, (e = 0 ∨ e = 4) ∧ Jn w (vl ka ia sa) (vl kb ib sb) (.tuple #[vl k1 i1 s1, .int .i64 0]) ∧ Jn w (vl kb ib sb) (vl kc ic sc) (.tuple #[vl k2 i2 s2, .int .i64 0]) ∧
      Jn w (vl k1 i1 s1) (vl kc ic sc) (.tuple #[vl k3 i3 s3, .int .i64 e]) ∧ Jn w (vl ka ia sa) (vl k2 i2 s2) (.tuple #[vl k3 i3 s3, .int .i64 e])) := by
  have hab : Jn w (vl ka ia sa) (vl kb ib sb) (joinT (txt dig ka ia sa) (txt dig kb ib sb)) := fun W hW => join_any dig ka ia sa kb ib sb W (hd.below hW) a0 a1 b0 b1
  have hbc : Jn w (vl kb ib sb) (vl kc ic sc) (joinT (txt dig kb ib sb) (txt dig kc ic sc)) := fun W hW => join_any dig kb ib sb kc ic sc W (hd.below hW) b0 b1 c0 c1
  rcases joinT_cases (txt dig ka ia sa) (txt dig kb ib sb) with ⟨k1, i1, s1, e1, h1, he1⟩ | ⟨x, y, hx, hy, hl1, h1⟩
  · rw [h1] at hab
    rcases joinT_cases (txt dig kb ib sb) (txt dig kc ic sc) with ⟨k2, i2, s2, e2, h2, _⟩ | ⟨_, _, _, _, _, h2⟩
    · rw [h2] at hbc
      exact .inl ⟨_, _, _, _, _, _, _, _, he1, hab, hbc⟩
    · rw [h2] at hbc
      exact .inl ⟨_, _, _, _, _, _, _, _, he1, hab, hbc⟩
  · rw [h1] at hab
    rcases joinT_cases (txt dig kb ib sb) (txt dig kc ic sc) with ⟨k2, i2, s2, e2, h2, he2⟩ | ⟨y', z, hy', hz, hl2, h2⟩
    · rw [h2] at hbc
      exact .inr (.inl ⟨_, _, _, _, _, _, _, he2, hab, hbc⟩)
    · rw [h2] at hbc
      rw [hy] at hy'
      injection hy' with hy'
      subst hy'
      have ox := txt_oct hd a0 a1 hx
      have oy := txt_oct hd b0 b1 hy
      have oz := txt_oct hd c0 c1 hz
      have h3 : Jn w (vl 2 0 (mkStr (x ++ y))) (vl kc ic sc) (joinV (x ++ y ++ z)) := fun W hW => by
        have := join_any dig 2 0 (mkStr (x ++ y)) kc ic sc W (hd.below hW) (by omega) (by omega) c0 c1
        rw [txt_join dig (x ++ y) (oct_app ox oy) hl1, hz] at this
        exact this
      have h4 : Jn w (vl ka ia sa) (vl 2 0 (mkStr (y ++ z))) (joinV (x ++ y ++ z)) := fun W hW => by
        have := join_any dig ka ia sa 2 0 (mkStr (y ++ z)) W (hd.below hW) a0 a1 (by omega) (by omega)
        rw [txt_join dig (y ++ z) (oct_app oy oz) hl2, hx] at this
        rw [List.append_assoc]
        exact this
      obtain ⟨k3, i3, s3, e, h5, he⟩ := joinV_shape (x ++ y ++ z)
      rw [h5] at h3 h4
      exact .inr (.inr ⟨_, _, _, _, _, _, _, _, _, _, he, hab, hbc, h3, h4⟩)

end Go.Proofs.Ytiammlngbejhkaa

/-
  DERIVED: THE SHELF's CONTRACTS AT THIS DUMP, IN PLAIN WORDS (tools/lay-plain.mjs out of 'YtiammlngbejhkaaLbRaw.lean', which tools/lay-shelf.mjs wrote): THE SAME DECLARATIONS UNDER THE SAME NAMES: 'import', 'namespace', 'open', 'def', 'theorem' AND NOTHING ELSE: no command of the shelf's: FOR A HAND-IN. Each laying: the table of numbers ('.._ren') and one theorem, a field a fact of the dump's own or the kernel's comparison; each contract: ONE APPLICATION.
-/
namespace Go.Proofs
open Go.Shelf
def Try.lays129_ren : Go.Shelf.Ren := ⟨fun | 129 => 127 | n => n, fun | 53 => 108 | 3 => 3 | 4 => 4 | 46 => 132 | 5 => 5 | 9 => 9 | n => n, fun | n => n⟩
theorem Try.lays129 : Go.Proofs.Lays.n129 Try.prog Try.lays129_ren := {
  mixed := by kernel_rfl
  f129 := Try.func127.trans (congrArg some (by kernel_rfl))
  t3 := Try.underlying3
  a3 := Try.isAgg3
  z3 := Try.sizeOf3
  v3 := Try.zeroValue3
  t4 := Try.underlying4
  a4 := Try.isAgg4
  z4 := Try.sizeOf4
  v4 := Try.zeroValue4
  t5 := Try.underlying5
  a5 := Try.isAgg5
  z5 := Try.sizeOf5
  v5 := Try.zeroValue5
  t9 := Try.underlying9
  a9 := Try.isAgg9
  z9 := Try.sizeOf9
  v9 := Try.zeroValue9
  t46 := Try.underlying132
  a46 := Try.isAgg132
  z46 := Try.sizeOf132
  v46 := Try.zeroValue132
  t53 := Try.underlying108
  a53 := Try.isAgg108
  z53 := Try.sizeOf108
  v53 := Try.zeroValue108 }
def Try.lays317_ren : Go.Shelf.Ren := ⟨fun | 317 => 126 | n => n, fun | 3 => 3 | 46 => 132 | n => n, fun | n => n⟩
theorem Try.lays317 : Go.Proofs.Lays.n317 Try.prog Try.lays317_ren := {
  mixed := by kernel_rfl
  f317 := Try.func126.trans (congrArg some (by kernel_rfl))
  t3 := Try.underlying3
  a3 := Try.isAgg3
  z3 := Try.sizeOf3
  v3 := Try.zeroValue3
  t46 := Try.underlying132
  a46 := Try.isAgg132
  z46 := Try.sizeOf132
  v46 := Try.zeroValue132 }
end Go.Proofs

namespace Go.Proofs.Ytiammlngbejhkaa
open Go.RowKit

/-- The library's table of powers, whatever it says. -/
def Tab (T : Nat → Int) (w : World) : Prop := ∃ (cs : Array Value) (t : TypeId), t ≠ 5 ∧ w.heap[1]? = some (.cells cs t (0, 0)) ∧ ∀ n, n < 20 → cs[n]? = some (.int .u64 (T n))

theorem Tab.cell {T : Nat → Int} {w : World} (h : Tab T w) (n : Nat) (hn : n < 20) : w.cell? ⟨1, n, none⟩ = some (.int .u64 (T n)) := by
  obtain ⟨cs, t, _, h1, h2⟩ := h
  simp [World.cell?, h1, h2 n hn]

theorem Tab.lt {T : Nat → Int} {w : World} (h : Tab T w) : 1 < w.heap.size := by
  obtain ⟨cs, t, _, h1, _⟩ := h
  exact (Array.getElem?_eq_some_iff.1 h1).1

theorem Tab.of_block {T : Nat → Int} {w w' : World} (h : Tab T w) (e : w'.heap[1]? = w.heap[1]?) : Tab T w' := by
  obtain ⟨cs, t, h0, h1, h2⟩ := h
  exact ⟨cs, t, h0, e.trans h1, h2⟩

theorem Tab.below {T : Nat → Int} {w w' : World} (h : Tab T w) (hb : Below w.heap.size w w') : Tab T w' := h.of_block (hb.block 1 h.lt)

theorem Tab.grown {T : Nat → Int} {w w' : World} {B : Nat} {v : Value} {n : Nat} {xs : List Value} (h : Tab T w) (ho : w.ownsRow B 5 1 v n xs) (hg : w.grownBy w' v.ownBlock) : Tab T w' := by
  refine h.of_block (hg.block 1 h.lt ?_)
  intro e
  obtain ⟨cs, t, h0, h1, _⟩ := h
  rcases ho.2 with ⟨rfl, _⟩ | ⟨g, cap, cur, rfl, _, hb, _⟩
  · simp [Value.ownBlock] at e
  · simp [Value.ownBlock] at e
    subst e
    rw [h1] at hb
    injection hb with hb
    injection hb with _ hb
    exact h0 hb

/-- The length that a number's digits are given by that table. -/
def ndT (T : Nat → Int) (u : Nat) : Nat := Lib.l10 (Lib.bitLen u) + if T (Lib.l10 (Lib.bitLen u)) ≤ (u : Int) then 1 else 0

theorem ndT_bd (T : Nat → Int) (u : Nat) (h1 : 100 ≤ u) (h2 : u < 18446744073709551616) : 2 ≤ ndT T u ∧ ndT T u ≤ 20 ∧ u < 10 ^ (ndT T u + 1) := by
  obtain ⟨hnd, h19⟩ := Lib.numDigits_eq u (by omega) h2
  have hlt := Lib.lt_pow_nDigits u
  have h3 : 3 ≤ Lib.nDigits u := by
    rcases Nat.lt_or_ge (Lib.nDigits u) 3 with h | h
    · have : (10 : Nat) ^ Lib.nDigits u ≤ 10 ^ 2 := Nat.pow_le_pow_right (by omega) (by omega)
      omega
    · exact h
  have hq : Lib.nDigits u ≤ Lib.l10 (Lib.bitLen u) + 1 := by rw [← hnd]; split <;> omega
  have hq2 : Lib.l10 (Lib.bitLen u) ≤ ndT T u := by unfold ndT; omega
  refine ⟨by omega, by unfold ndT; split <;> omega, ?_⟩
  exact Nat.lt_of_lt_of_le hlt (Nat.pow_le_pow_right (by omega) (by omega))

set_option maxRecDepth 100000 in
set_option maxHeartbeats 800000 in
theorem bool2_any (b : Bool) (w : World) : Calls Try.prog 128 #[.bool b] w fun e w' => e = .returned (.int .i64 (if b = true then 1 else 0)) ∧ w' = w := by
  cases b
  · go_enter Try.func128, Try.ntmps128
    go_wp2
    go_ret
    exact ⟨rfl, rfl⟩
  · go_enter Try.func128, Try.ntmps128
    go_wp2
    go_ret
    exact ⟨rfl, rfl⟩

set_option maxRecDepth 100000 in
set_option maxHeartbeats 1600000 in
theorem numDigits_any (T : Nat → Int) (u : Nat) (h1 : 100 ≤ u) (h2 : u < 18446744073709551616) (w : World) (ht : Tab T w) :
    Calls Try.prog 123 #[.int .u64 u] w fun e w' => e = .returned (.int .i64 (ndT T u)) ∧ w' = w := by
  obtain ⟨_, h19⟩ := Lib.numDigits_eq u (by omega) h2
  have hL : Lib.bitLen u ≤ 64 := Lib.bitLen_le u 64 (Nat.le_refl _) h2
  obtain ⟨q, hq⟩ : ∃ q, q = Lib.l10 (Lib.bitLen u) := ⟨_, rfl⟩
  obtain ⟨L, hLq⟩ : ∃ L, L = Lib.bitLen u := ⟨_, rfl⟩
  have hnd : (ndT T u : Int) = q + (if decide (T q ≤ (u : Int)) = true then 1 else 0) := by
    unfold ndT
    rw [← hq]
    by_cases h : T q ≤ (u : Int) <;> simp [h]
  have c1 : ∀ w, Calls Try.prog 127 #[.int .u64 u] w fun e w' => e = .returned (.int .i64 L) ∧ w' = w := by
    intro w
    have := Any.bits_Len64 Try.lays129 (u : Int) w (by omega) (by omega)
    rw [show ((u : Int)).toNat = u by omega, ← hLq] at this
    exact this
  have c2 : ∀ w, Calls Try.prog 126 #[.int .i64 L] w fun e w' => e = .returned (.int .i64 q) ∧ w' = w := by
    intro w
    have := Any.internal_strconv_log10Pow2 Try.lays317 L (by omega) w
    rw [hLq, ← hq] at this
    rw [hLq]
    exact this
  rw [← hq] at h19
  have hc := ht.cell q (by omega)
  have h20 : q < 20 := by omega
  have hb2 := bool2_any (decide (T q ≤ (u : Int)))
  obtain ⟨b, hb⟩ : ∃ b, b = decide (T q ≤ (u : Int)) := ⟨_, rfl⟩
  obtain ⟨t, htq⟩ : ∃ t, t = T q := ⟨_, rfl⟩
  rw [hnd]
  rw [← hb] at hb2 ⊢
  rw [← htq] at hc hb
  have C1 := hid c1
  have C2 := hid c2
  have CB := hid hb2
  have HB := hid hb
  clear c1 c2 hb2 hb htq hnd hq hLq ht hL
  cases b
  all_goals
    go_enter Try.func123, Try.ntmps123
    go_wp2_with (first
      | (go_at_call 127; refine (C1.out _).mono ?_; rintro e w' ⟨rfl, e1⟩; rw [e1]; clear e1 w')
      | (go_at_call 126; refine (C2.out _).mono ?_; rintro e w' ⟨rfl, e1⟩; rw [e1]; clear e1 w')
      | (go_at_call 128; (rw [← HB.out]); refine (CB.out _).mono ?_; rintro e w' ⟨rfl, e1⟩; rw [e1]; clear e1 w'))
    go_ret
    exact ⟨by simp, rfl⟩

end Go.Proofs.Ytiammlngbejhkaa

namespace Go.Proofs.Ytiammlngbejhkaa
open Go.RowKit

/-- A slice of bytes, nil or with an address. -/
def Sn (w : World) (v : Value) (bs : List Int) : Prop := Sl w v bs ∧ (v = .slice none 0 0 ∨ ∃ a n c, v = .slice (some a) n c)

theorem sn_nil (w : World) : Sn w (.slice none 0 0) [] := ⟨⟨none, 0, rfl, Nat.le_refl _, fun h => absurd rfl h⟩, .inl rfl⟩

theorem sn_of_owns {w : World} {B : Nat} {v : Value} {bs : List Int} {n : Nat} (h : w.ownsRow B 5 1 v n (B8 bs)) : Sn w v bs := by
  refine ⟨sl_of_owns h, ?_⟩
  rcases h.2 with ⟨rfl, _⟩ | ⟨g, cap, cur, rfl, _⟩
  · exact .inl rfl
  · exact .inr ⟨_, _, _, rfl⟩

theorem Sn.kept {w w' : World} {v : Value} {bs : List Int} {S : Nat → Prop} (h : Sn w v bs) (hk : Kept S w w') (hn : ∀ k, v.ownBlock = some k → ¬ S k) : Sn w' v bs := ⟨h.1.kept hk hn, h.2⟩
theorem Sn.below {w w' : World} {v : Value} {bs : List Int} (h : Sn w v bs) (hk : Below w.heap.size w w') : Sn w' v bs := ⟨h.1.below hk, h.2⟩
theorem Sn.alloc {w : World} {v : Value} {bs : List Int} (h : Sn w v bs) (o : Obj) : Sn (w.alloc o) v bs := h.below ((Below.refl _ _).alloc (Nat.le_refl _) o)

set_option maxRecDepth 100000 in
theorem append_sn (w : World) (ty : TypeId) (B : Nat) (v : Value) (n : Nat) (xs : List Int) (hown : w.ownsRow B 5 1 v n (B8 xs)) (sv : Value) (ys : List Int) (hsn : Sn w sv ys) (hl : n + ys.length ≤ 100000000000) (hbase : B ≤ w.heap.size) :
    ∃ v' w', (Builtin.append_ #[40, 40] ty #[v, sv]).run Try.prog w = .ok v' w' ∧ w'.ownsRow B 5 1 v' (n + ys.length) (B8 (xs ++ ys)) ∧ w.grownBy w' v.ownBlock ∧ (v'.ownBlock = v.ownBlock ∨ v'.ownBlock = some w.heap.size) := by
  obtain ⟨i0, hi, hz0, hz1, hz2⟩ := info_parts Try.info5
  obtain ⟨⟨ao, cap, rfl, hc, hx⟩, hsh⟩ := hsn
  rcases hsh with hsh | ⟨a, m, c, hsh⟩
  · injection hsh with h1 h2 h3
    have hy : ys = [] := List.eq_nil_of_length_eq_zero h2
    subst hy
    subst h1 h3
    refine ⟨v, w, run_append_owned_none (P := Try.prog) (w := w) B 40 ty 5 i0 1 Try.underlying40 hi v n (B8 xs) hown, by simpa using hown, ⟨rfl, rfl, rfl, Nat.le_refl _, fun _ _ _ => rfl⟩, .inl rfl⟩
  · injection hsh with h1 h2 h3
    subst h1 h2 h3
    obtain ⟨v', w', hr, q1, q2, _, q4⟩ := run_append_own_at (P := Try.prog) w B 40 ty 5 i0 (.int .u8 0) 1 1 Try.underlying40 hi hz0 hz1 hz2 rfl (by omega) v n (B8 xs) hown a ys.length cap (B8 ys) (by simp) (by
      intro j u hu
      rw [List.getElem?_map, Option.map_eq_some_iff] at hu
      obtain ⟨y, hy, rfl⟩ := hu
      obtain ⟨b, off, e, hj⟩ := hx (by intro e; subst e; simp at hy)
      injection e with e
      subst e
      rw [add_lit]
      exact hj j y hy) (by intro u hu; obtain ⟨_, _, rfl⟩ := List.mem_map.1 hu; rfl) (by unfold maxLen; omega) (by omega) hbase
    exact ⟨v', w', hr, by simpa using q1, q2, q4⟩

theorem wpList_append_sn (w : World) {ops : Array Oper} {rest : List Oper} {o : Oper} {a : Act} {Q : Exit → Act → World → Prop} (hgd : o.guard = none) (s x : Operand)
    (ho : o.op = .call { callee := .builtin .append, args := #[s, x], argTypes := #[40, 40] }) (B : Nat) (v : Value) (n : Nat) (xs : List Int) (hs : a.eval s = v) (hown : w.ownsRow B 5 1 v n (B8 xs))
    (sv : Value) (ys : List Int) (hx : a.eval x = sv) (hsn : Sn w sv ys) (hl : n + ys.length ≤ 100000000000) (hbase : B ≤ w.heap.size)
    (h : ∀ ao c w', w'.ownsRow B 5 1 (.slice ao (n + ys.length) c) (n + ys.length) (B8 (xs ++ ys)) → w.grownBy w' v.ownBlock → wpList Try.prog ops Q rest (a.put o.dst (.slice ao (n + ys.length) c)) w') : wpList Try.prog ops Q (o :: rest) a w := by
  refine wpList_plain hgd fun K hK => ?_
  obtain ⟨v', w', hr, h2, h3, _⟩ := append_sn w o.type B v n xs hown sv ys hsn hl hbase
  obtain ⟨ao, c, rfl⟩ : ∃ ao c, v' = .slice ao (n + ys.length) c := by
    rcases h2.2 with ⟨e1, e2⟩ | ⟨g, cap, cur, e1, _⟩
    · exact ⟨none, 0, by rw [e1, e2]⟩
    · exact ⟨_, _, e1⟩
  unfold Oper.wp execOp
  simp only [ho, resolve, invoke, builtin, Sem.run_bind, Sem.run_pure, Result.andThen_ok, List.map_toArray, List.map_cons, List.map_nil, hs, hx, hr]
  exact hK _ _ (h ao c w' h2 h3)

set_option maxRecDepth 100000 in
set_option maxHeartbeats 1600000 in
theorem sevens_any (u : Int) (w : World) (hu0 : 0 ≤ u) (hu1 : u < 18446744073709551616) :
    Calls Try.prog 88 #[.int .u64 u] w fun x w' => ∃ v, x = .returned v ∧ Sn w' v (rowF 10 u) ∧ Below w.heap.size w w' := by
  obtain ⟨i0, hi, hz0, hz1, hz2⟩ := info_parts Try.info5
  go_enter Try.func88, Try.ntmps88
  go_wp2
  go_loopw [0, 3] (fun t v wr => ∃ (f : Nat) (u' : Int) (bs : List Int), t = .int .u64 u' ∧ 0 ≤ u' ∧ u' < 18446744073709551616 ∧ wr.ownsRow w.heap.size 5 1 v bs.length (B8 bs) ∧ Hid (bs ++ rowF f u' = rowF 10 u) ∧ bs.length + f = 10 ∧ Hid (u' < 128 ^ (f + 1)) ∧ Below w.heap.size w wr)
    (fun t _ _ => (intOf t).toNat)
  case atStart => exact ⟨10, u, [], rfl, hu0, hu1, World.ownsRow_nil _ _ _ _, hid rfl, rfl, hid (show u < 128 ^ (10 + 1) by omega), Below.refl _ _⟩
  case round =>
    obtain ⟨f, u', bs, rfl, h0, h1, hown, hb, hlen, hpow, hbel⟩ := hrel
    have hsz := hbel.size
    have hlo := hown.lt
    by_cases hc : 128 ≤ u'
    · have a2 : IntKind.u8.wrap (u' % 128) = u' % 128 := by rw [IntKind.wrap_u8]; omega
      have a3 : IntKind.u8.wrap (u' % 128 + 128) = u' % 128 + 128 := by rw [IntKind.wrap_u8]; omega
      go_wp2_with (at_builtin; refine wpList_append_lies _ rfl _ _ _ rfl w.heap.size 5 i0 (.int .u8 0) 1 1 Try.underlying40 hi hz0 hz1 hz2 rfl (by omega) _ bs.length (B8 bs) rfl (hown.alloc _) ⟨wr.heap.size, 0, none⟩ 1 1 [.int .u8 (u' % 128 + 128)] rfl rfl (World.news_of_block (cs := #[.int .u8 (u' % 128 + 128)]) (t := 5) (fr := (0, 0)) (heap_alloc_new wr _)) (by simp [Value.oneCell']) (by omega) (by unfold maxLen; omega) (by omega) (by simp; omega) (wr.heap.size + 1) (by simp) ?_)
      intro g2 cap w1 hown1 hgrow hat hlt
      have hb1 : Below w.heap.size w w1 := (hbel.alloc hsz _).grown hgrow (by simp; omega) (fun k hk => (hlo k hk).1)
      have HO := hid hown1
      clear hown1 hgrow hat hown hlo
      go_wp2
      go_roundw
      case rel =>
        cases f with
        | zero => exact absurd (show 127 < u' by omega) (pow_zero_no u' hpow)
        | succ f =>
          refine ⟨f, u' / 128, bs ++ [u' % 128 + 128], by first | rfl | go_num, by omega, by omega, ?_, hid ?_, by simp; omega, hid (pow_step f u' hpow), hb1⟩
          · have := HO.out
            simpa [B8] using this
          · rw [← hb.out, rowF_more f u' (by omega), List.append_assoc]
      case measure => simp [intOf]; omega
    · have a2 : IntKind.u8.wrap u' = u' := by rw [IntKind.wrap_u8]; omega
      go_wp2_with (at_builtin; refine wpList_append_lies _ rfl _ _ _ rfl w.heap.size 5 i0 (.int .u8 0) 1 1 Try.underlying40 hi hz0 hz1 hz2 rfl (by omega) _ bs.length (B8 bs) rfl (hown.alloc _) ⟨wr.heap.size, 0, none⟩ 1 1 [.int .u8 (u')] rfl rfl (World.news_of_block (cs := #[.int .u8 (u')]) (t := 5) (fr := (0, 0)) (heap_alloc_new wr _)) (by simp [Value.oneCell']) (by omega) (by unfold maxLen; omega) (by omega) (by simp; omega) (wr.heap.size + 1) (by simp) ?_)
      intro g2 cap w1 hown1 hgrow hat hlt
      have hb1 : Below w.heap.size w w1 := (hbel.alloc hsz _).grown hgrow (by simp; omega) (fun k hk => (hlo k hk).1)
      have HO := hid hown1
      clear hown1 hgrow hat hown hlo
      go_wp2
      go_ret
      refine ⟨_, rfl, ?_, hb1⟩
      have := HO.out
      rw [← hb.out, rowF_last f u' (by omega)]
      exact sn_of_owns (B := w.heap.size) (n := bs.length + 1) (by simpa [B8] using this)

end Go.Proofs.Ytiammlngbejhkaa

namespace Go.Proofs.Ytiammlngbejhkaa
open Go.RowKit

/-- formatBase10 lays these digits. -/
def Fmt (nd u : Nat) (ds : List Int) : Prop := ∀ (w : World) (g cp : Nat) (t : TypeId) (r : List Int), w.heap[g]? = some (.cells (B8 (List.replicate nd 0 ++ r)).toArray t (0, 0)) →
      Calls Try.prog 124 #[.slice (some ⟨g, 0, none⟩) nd cp, .int .u64 u] w fun e w' => e = .returned (.tuple #[]) ∧ w'.heap[g]? = some (.cells (B8 (ds ++ r)).toArray t (0, 0)) ∧ Kept (fun k => k = g) w w'

theorem below_kept {B g : Nat} {a b c : World} (h : Below B a b) (hk : Kept (fun k => k = g) b c) (hB : B ≤ g) (hb : B ≤ b.heap.size) : Below B a c :=
  ⟨hk.os.trans h.os, hk.tape.trans h.tape, hk.output.trans h.output, Nat.le_trans h.size hk.size, fun k hkb => (hk.block k (by omega) (by omega)).trans (h.block k hkb)⟩

theorem sn_block {w : World} {g c : Nat} {t : TypeId} {ds r : List Int} (h : w.heap[g]? = some (.cells (B8 (ds ++ r)).toArray t (0, 0))) (hc : ds.length ≤ c) : Sn w (.slice (some ⟨g, 0, none⟩) ds.length c) ds := by
  refine ⟨⟨some ⟨g, 0, none⟩, c, rfl, hc, fun _ => ⟨g, 0, rfl, ?_⟩⟩, .inr ⟨_, _, _, rfl⟩⟩
  intro j y hy
  rw [cell_of_row w g _ _ _ _ h]
  have hj := (List.getElem?_eq_some_iff.1 hy).1
  have hy2 : ds[j] = y := (List.getElem?_eq_some_iff.1 hy).2
  simp [hj, hy2, List.getElem?_append_left]

abbrev zer : Obj := .cells (B8 (List.replicate 24 0)).toArray 153

set_option maxRecDepth 100000 in
set_option maxHeartbeats 1600000 in
theorem appendUint_big (T : Nat → Int) (u : Nat) (h1 : 100 ≤ u) (h2 : u < 18446744073709551616) (ds : List Int) (hd : ds.length = ndT T u) (hF : Fmt (ndT T u) u ds) (B : Nat) (v : Value) (xs : List Int) (w : World) (ht : Tab T w) (ho : w.ownsRow B 5 1 v xs.length (B8 xs)) (hB : B ≤ w.heap.size) (hl : xs.length ≤ 100000000) :
    Calls Try.prog 121 #[v, .int .u64 u, .int .i64 10] w (LayPost B xs ds w) := by
  have g1 : (100 : Int) ≤ (u : Int) := by omega
  have hbd := ndT_bd T u h1 h2
  have hN := fun w h => numDigits_any T u h1 h2 w h
  obtain ⟨nd, hnd⟩ : ∃ nd, nd = ndT T u := ⟨_, rfl⟩
  rw [← hnd] at hbd hd hF
  have hN : ∀ w, Tab T w → Calls Try.prog 123 #[.int .u64 u] w fun e w' => e = .returned (.int .i64 nd) ∧ w' = w := by rw [hnd]; exact hN
  have n2 : 2 ≤ nd := hbd.1
  have n20 : nd ≤ 20 := hbd.2.1
  have HT := hid ht
  have HO := hid ho
  have HN := hid hN
  have HF := hid hF
  have HD := hid hd
  clear ht ho h1 h2 hbd hN hF hnd hd
  have hz : (w.alloc zer).heap[w.heap.size]? = some (.cells (B8 (List.replicate nd 0 ++ List.replicate (24 - nd) 0)).toArray 153 (0, 0)) := by
    rw [List.replicate_append_replicate, show nd + (24 - nd) = 24 by omega]
    exact heap_alloc_new w _
  have HZ := hid hz
  clear hz
  unfold LayPost
  have hsl : ∀ W, (Instr.sliceAt 153 (.pointer (some ⟨w.heap.size, 0, none⟩)) none (some (.int .i64 (nd : Int))) none).run Try.prog W = .ok (.slice (some ⟨w.heap.size, 0, none⟩) nd 24) W := fun W => by
    have hal : Try.prog.arrayLen 153 = 24 := by simp [Program.arrayLen, Try.underlying153]
    rw [run_sliceAt_array_h W 153 ⟨w.heap.size, 0, none⟩ (by simp [Program.arrayLen, Program.elem, Try.underlying153]) .i64 (nd : Int) (by omega) (by rw [hal]; omega)]
    go_simp
  go_enter Try.func121, Try.ntmps121
  go_wp2_with (first
    | (go_at_call 123
       refine (HN.out _ (HT.out.below (below1 w _))).mono ?_
       rintro e w' ⟨rfl, e1⟩
       rw [e1]
       clear e1 w')
    | (go_at_call 124; go_loud (
       refine (HF.out (w.alloc zer) w.heap.size 24 153 _ HZ.out).mono ?_
       rintro e w1 ⟨rfl, hr, hk⟩
       have H1 := hid (And.intro (sn_block (c := 24) hr (by rw [HD.out]; omega)) (And.intro (ownsRow_kept (HO.out.alloc zer) hk (fun k hv => by have hlt := HO.out.lt k hv; intro e; subst e; omega)) (below_kept ((Below.refl B w).alloc hB zer) hk hB (by simp; omega))))
       clear hr hk))
    | (at_builtin; go_loud (
       refine wpList_append_sn _ rfl _ _ rfl B _ xs.length xs rfl H1.out.2.1 _ ds (by rw [HD.out]; rfl) H1.out.1 (by rw [HD.out]; omega) (Nat.le_trans hB H1.out.2.2.size) ?_
       intro ao c w2 hown hgrow
       have H2 := hid (And.intro hown (below_grown H1.out.2.2 hB H1.out.2.1 hgrow))
       clear hown hgrow)))
  go_ret
  exact ⟨_, rfl, by simpa using H2.out.1, H2.out.2⟩

end Go.Proofs.Ytiammlngbejhkaa
