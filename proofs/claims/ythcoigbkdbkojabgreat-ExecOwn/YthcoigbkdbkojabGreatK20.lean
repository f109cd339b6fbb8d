import Derived.Test.YthcoigbkdbkojabGreatK19
import Derived.Lib.AppendStr
import Derived.Laws.BytesArg
set_option maxRecDepth 100000
namespace Go.Proofs.YthcoigbkdbkojabGreat
open Go.RowKit
theorem mul64_any (x y : Nat) (hx : x < 18446744073709551616) (hy : y < 18446744073709551616) (w : World) :
    Calls Tryz.prog 146 #[.int .u64 x, .int .u64 y] w fun e w' => e = .returned (.tuple #[.int .u64 ((x * y / 18446744073709551616 : Nat) : Int), .int .u64 ((x * y % 18446744073709551616 : Nat) : Int)]) ∧ w' = w :=
  Any.bits_Mul64 Tryz.lays264 x y hx hy w
set_option maxHeartbeats 800000 in
theorem prod_walk (x y : Int) (hx1 : -9223372036854775808 ≤ x) (hx2 : x ≤ 9223372036854775807) (hy1 : -9223372036854775808 ≤ y) (hy2 : y ≤ 9223372036854775807) (w : World) (hi lo : Nat)
    (hm : hi = x.natAbs * y.natAbs / 18446744073709551616) (hn : lo = x.natAbs * y.natAbs % 18446744073709551616) (z : Int) (b : Bool)
    (hc : (decide (x < 0) == decide (y < 0)) = true ∧ z = wrap64 (lo : Int) ∧ b = (decide (hi = 0) && decide (lo ≤ 9223372036854775807)) ∨
      (decide (x < 0) == decide (y < 0)) = false ∧ z = wrap64 (-(wrap64 (lo : Int))) ∧ b = (decide (hi = 0) && decide (lo ≤ 9223372036854775808))) :
    Calls Tryz.prog 124 #[.int .i64 x, .int .i64 y] w fun e w' => e = .returned (.tuple #[.int .i64 z, .bool b]) ∧ w' = w := by
  have hmu := hid (mul64_any x.natAbs y.natAbs (by omega) (by omega))
  rw [← hm, ← hn] at hmu
  clear hm hn
  rcases hc with ⟨hsg, hz, hb⟩ | ⟨hsg, hz, hb⟩
  all_goals
    have HB := hid hb
    have HZ := hid hz
    clear hb hz
    by_cases h0 : (hi : Int) = 0
    · have h0' : hi = 0 := by omega
      subst h0'
      go_enter Tryz.func124, Tryz.ntmps124
      go_wp2_with (first
        | (go_at_call 147
           refine (size_any _ _ (by omega) (by omega)).mono ?_
           rintro e w1 ⟨rfl, e1⟩
           rw [e1]
           clear e1 w1)
        | (go_at_call 146
           refine (hmu.out _).mono ?_
           rintro e w1 ⟨rfl, e1⟩
           rw [e1]
           clear e1 w1))
      go_ret2
      refine ⟨?_, rfl⟩
      first
        | (have e2 : b = decide ((lo : Int) ≤ 9223372036854775807) := by (rw [HB.out, Bool.eq_iff_iff]; simp; omega)
           rw [HZ.out, e2]
           rfl)
        | (have e2 : b = decide ((lo : Int) ≤ 9223372036854775808) := by (rw [HB.out, Bool.eq_iff_iff]; simp; omega)
           rw [HZ.out, e2]
           rfl)
    · have h0' : ((hi : Int) == 0) = false := by simpa using h0
      go_enter Tryz.func124, Tryz.ntmps124
      go_wp2_with (first
        | (go_at_call 147
           refine (size_any _ _ (by omega) (by omega)).mono ?_
           rintro e w1 ⟨rfl, e1⟩
           rw [e1]
           clear e1 w1)
        | (go_at_call 146
           refine (hmu.out _).mono ?_
           rintro e w1 ⟨rfl, e1⟩
           rw [e1]
           clear e1 w1))
      go_ret2
      refine ⟨?_, rfl⟩
      have e2 : b = false := by
        rw [HB.out]
        have : ¬ hi = 0 := by omega
        simp [this]
      rw [HZ.out, e2]
      rfl
theorem prod_reck (x y : Int) (hx : inR x = true) (hy : inR y = true) : Reck 124 x y (x * y) := by
  intro w
  have hx2 : -9223372036854775808 ≤ x ∧ x ≤ 9223372036854775807 := by unfold inR at hx; simpa using hx
  have hy2 : -9223372036854775808 ≤ y ∧ y ≤ 9223372036854775807 := by unfold inR at hy; simpa using hy
  have ha := mul_abs x y
  obtain ⟨m, hm⟩ : ∃ m, m = x.natAbs * y.natAbs := ⟨_, rfl⟩
  obtain ⟨v, hv⟩ : ∃ v, v = x * y := ⟨_, rfl⟩
  rw [← hm, ← hv] at ha
  by_cases hs : (x < 0) = (y < 0)
  · rw [if_pos hs] at ha
    refine (prod_walk x y hx2.1 hx2.2 hy2.1 hy2.2 w (m / 18446744073709551616) (m % 18446744073709551616) (by rw [hm]) (by rw [hm]) _ _ (.inl ⟨by simp [hs], rfl, rfl⟩)).mono ?_
    rintro e w' ⟨rfl, rfl⟩
    refine ⟨⟨wrap64 ((m % 18446744073709551616 : Nat) : Int), ?_, ?_⟩, rfl⟩
    · have e : (decide (m / 18446744073709551616 = 0) && decide (m % 18446744073709551616 ≤ 9223372036854775807)) = inR (x * y) := by
        rw [Bool.eq_iff_iff, ← hv]
        unfold inR
        simp
        omega
      rw [e]
    · rw [← hv]
      unfold inR
      intro h
      simp at h
      simp [wrap64]
      omega
  · rw [if_neg hs] at ha
    refine (prod_walk x y hx2.1 hx2.2 hy2.1 hy2.2 w (m / 18446744073709551616) (m % 18446744073709551616) (by rw [hm]) (by rw [hm]) _ _ (.inr ⟨?_, rfl, rfl⟩)).mono ?_
    · rcases Int.lt_or_le x 0 with h1 | h1 <;> rcases Int.lt_or_le y 0 with h2 | h2
      · exact absurd (by simp [h1, h2]) hs
      · simp [h1]; omega
      · simp [h2]; omega
      · exact absurd (by simp; omega) hs
    rintro e w' ⟨rfl, rfl⟩
    refine ⟨⟨wrap64 (-(wrap64 ((m % 18446744073709551616 : Nat) : Int))), ?_, ?_⟩, rfl⟩
    · have e : (decide (m / 18446744073709551616 = 0) && decide (m % 18446744073709551616 ≤ 9223372036854775808)) = inR (x * y) := by
        rw [Bool.eq_iff_iff, ← hv]
        unfold inR
        simp
        omega
      rw [e]
    · rw [← hv]
      unfold inR
      intro h
      simp at h
      simp [wrap64]
      omega
set_option maxHeartbeats 800000 in
theorem mul_any (k i : Int) (s : ByteArray) (l j : Int) (t : ByteArray) (hi : inR i = true) (hj : inR j = true) (w : World) :
    Calls Tryz.prog 97 #[vl k i s, vl l j t] w fun e w' => e = .returned (rckT (isI k s) (isI l t) (i * j)) ∧ Below w.heap.size w w' := by
  obtain ⟨-, -, hC, h0⟩ := three w (vo k i s) (vo l j t) (vo 0 0 emp)
  have HC := hid hC
  have H0 := hid h0
  clear hC h0
  have hr := hid (reckon_any 124 k i s l j t (i * j) (fun _ _ => prod_reck i j hi hj) (enters_of Tryz.func124 (by kernel_rfl) rfl))
  have hsh := hid (rckT_shape (isI k s) (isI l t) (i * j))
  go_enter Tryz.func97, Tryz.ntmps97
  go_wp2_with (
    go_at_call 121
    refine (hr.out _).mono ?_
    rintro e w1 ⟨rfl, hb1⟩
    obtain ⟨a, b, c, d, hs⟩ := hsh.out
    rw [hs]
    have g2 := blk_of hb1 HC.out (by simp)
    obtain ⟨c0, c1, c2, ff⟩ := vfacts g2
    have HS := hid hs
    have H1 := hid (And.intro g2 (below_on H0.out hb1))
    clear hb1 g2 hs)
  refine bodyPost_ret (ret_agg2 Tryz.results97 rfl (set3 H1.out.1 _ _ _)) rfl ?_
  exact ⟨by rw [HS.out]; rfl, Below.set3 H1.out.2 (by omega) _ _ _⟩
def Sl (w : World) (v : Value) (bs : List Int) : Prop :=
  ∃ ao cap, v = .slice ao bs.length cap ∧ bs.length ≤ cap ∧ (bs ≠ [] → ∃ b off, ao = some ⟨b, off, none⟩ ∧ ∀ j x, bs[j]? = some x → w.cell? ⟨b, off + j, none⟩ = some (.int .u8 x))
theorem sl_of_owns {w : World} {B : Nat} {v : Value} {bs : List Int} {n : Nat} (h : w.ownsRow B 5 1 v n (B8 bs)) : Sl w v bs := by
  have hl : n = bs.length := by have := h.1; simp at this; omega
  subst hl
  rcases h.2 with ⟨rfl, h0⟩ | ⟨g, cap, cur, rfl, hb, hg, hc, _, hs, ht⟩
  · have : bs = [] := List.eq_nil_of_length_eq_zero h0
    subst this
    exact ⟨none, 0, rfl, Nat.le_refl _, fun h => absurd rfl h⟩
  · refine ⟨_, cap, rfl, hc, fun _ => ⟨g, 0, rfl, ?_⟩⟩
    intro j x hx
    have := h.cells (g := g) rfl j (.int .u8 x) (by simp [B8, hx])
    rwa [add_lit] at this
end Go.Proofs.YthcoigbkdbkojabGreat
namespace Go.Proofs.YthcoigbkdbkojabGreat
open Go.RowKit Go.Lib
theorem strCells_B8 (s : ByteArray) : strCells s = B8 (strBs s) := by
  simp [strCells, strBs, B8, List.map_map, Function.comp_def]
def LayPost (B : Nat) (xs ys : List Int) (w : World) (e : Ending) (w' : World) : Prop := ∃ v', e = .returned v' ∧ w'.ownsRow B 5 1 v' (xs ++ ys).length (B8 (xs ++ ys)) ∧ Below B w w'
theorem below_grown {B : Nat} {w w1 w2 : World} {v : Value} {n : Nat} {xs : List Value} (h : Below B w w1) (hB : B ≤ w.heap.size) (ho : w1.ownsRow B 5 1 v n xs) (hg : w1.grownBy w2 v.ownBlock) : Below B w w2 := by
  refine h.trans ((Below.refl B w1).grown hg (Nat.le_trans hB h.size) ?_)
  intro k hk
  exact (ho.lt k hk).1
theorem lay_post {B : Nat} {w w1 : World} {v v' : Value} {xs : List Int} {s : ByteArray} (hB : B ≤ w.heap.size) (ho : w.ownsRow B 5 1 v xs.length (B8 xs)) (hown : w1.ownsRow B 5 1 v' (xs.length + s.size) (B8 xs ++ strCells s)) (hg : w.grownBy w1 v.ownBlock) :
    w1.ownsRow B 5 1 v' (xs ++ strBs s).length (B8 (xs ++ strBs s)) ∧ Below B w w1 := by
  refine ⟨?_, below_grown (Below.refl B w) hB ho hg⟩
  rw [strCells_B8] at hown
  simpa [strBs_len] using hown
set_option maxHeartbeats 800000 in
theorem tlay_any (B : Nat) (v : Value) (xs : List Int) (s : ByteArray) (w : World) (ho : w.ownsRow B 5 1 v xs.length (B8 xs)) (hB : B ≤ w.heap.size) (hl : xs.length + s.size ≤ 1000000000) :
    Calls Tryz.prog 219 #[.string s, v] w (LayPost B xs (strBs s) w) := by
  obtain ⟨i0, hi, hz0, hz1, hz2⟩ := info_parts Tryz.info5
  have HO := hid ho
  clear ho
  unfold LayPost
  go_enter Tryz.func219, Tryz.ntmps219
  go_wp2_with (at_builtin; go_loud (
    refine wpList_append_own_string _ rfl _ _ 53 163 rfl B 5 i0 Tryz.underlying53 Tryz.underlying163 hi hz0 hz1 hz2 _ xs.length (B8 xs) rfl HO.out s rfl (by unfold maxLen; omega) (by omega) hB ?_
    intro v' w1 hown hgrow _
    have H1 := hid (lay_post hB HO.out hown hgrow)
    clear hown hgrow))
  go_ret
  exact ⟨_, rfl, H1.out.1, H1.out.2⟩
end Go.Proofs.YthcoigbkdbkojabGreat
namespace Go.Proofs.YthcoigbkdbkojabGreat
open Go.RowKit
def mkStr (l : List Int) : ByteArray := ⟨(l.map fun x => UInt8.ofNat x.toNat).toArray⟩
theorem sl_string {w : World} {v : Value} {bs : List Int} (h : Sl w v bs) : (convert 53 9 v).run Tryz.prog w = .ok (.string (mkStr bs)) w := by
  obtain ⟨ao, cap, rfl, hc, hx⟩ := h
  rw [run_convert_bytes_string w 53 9 5 ao _ cap Tryz.underlying53 Tryz.underlying5 Tryz.underlying9]
  by_cases hne : bs = []
  · subst hne
    cases ao with
    | none => rfl
    | some a =>
      have := run_bytesToString (P := Tryz.prog) w a 0 cap [] (by
        have := run_loadCells_list (P := Tryz.prog) w a [] (by intro j v h; cases h)
        simpa using this)
      exact this
  · obtain ⟨b, off, rfl, hj⟩ := hx hne
    have h1 := run_loadCells_list (P := Tryz.prog) w ⟨b, off, none⟩ (B8 bs) (by
      intro j v hv
      rw [List.getElem?_map, Option.map_eq_some_iff] at hv
      obtain ⟨x, hx1, rfl⟩ := hv
      rw [add_lit]
      exact hj j x hx1)
    simp only [List.length_map] at h1
    rw [run_bytesToString w ⟨b, off, none⟩ _ cap bs h1, foldl_push_bytes]
    simp [mkStr]
end Go.Proofs.YthcoigbkdbkojabGreat
namespace Go.Proofs.YthcoigbkdbkojabGreat
open Go.RowKit Go.Lib
def Lays' (F : Nat) (x : Value) (ys : List Int) (w0 : World) : Prop := ∀ (B : Nat) (v : Value) (xs : List Int) (w : World), w.ownsRow B 5 1 v xs.length (B8 xs) → B ≤ w.heap.size → Below w0.heap.size w0 w → xs.length ≤ 1000000 → Calls Tryz.prog F #[x, v] w (LayPost B xs ys w)
def joinV (zs : List Int) : Value := if zs.length ≤ 256 then .tuple #[vl 2 0 (mkStr zs), .int .i64 0] else .tuple #[vl 0 0 emp, .int .i64 4]
theorem sl_text {w : World} {v : Value} {bs : List Int} (h : Sl w v bs) : (convert 53 163 v).run Tryz.prog w = .ok (.string (mkStr bs)) w := by
  obtain ⟨ao, cap, rfl, hc, hx⟩ := h
  rw [run_convert_bytes_string w 53 163 5 ao _ cap Tryz.underlying53 Tryz.underlying5 Tryz.underlying163]
  by_cases hne : bs = []
  · subst hne
    cases ao with
    | none => rfl
    | some a =>
      have := run_bytesToString (P := Tryz.prog) w a 0 cap [] (by
        have := run_loadCells_list (P := Tryz.prog) w a [] (by intro j v h; cases h)
        simpa using this)
      exact this
  · obtain ⟨b, off, rfl, hj⟩ := hx hne
    have h1 := run_loadCells_list (P := Tryz.prog) w ⟨b, off, none⟩ (B8 bs) (by
      intro j v hv
      rw [List.getElem?_map, Option.map_eq_some_iff] at hv
      obtain ⟨x, hx1, rfl⟩ := hv
      rw [add_lit]
      exact hj j x hx1)
    simp only [List.length_map] at h1
    rw [run_bytesToString w ⟨b, off, none⟩ _ cap bs h1, foldl_push_bytes]
    simp [mkStr]
theorem owns_nil8 (w : World) (B : Nat) : w.ownsRow B 5 1 (.slice none 0 0) ([] : List Int).length (B8 []) := ⟨rfl, .inl ⟨rfl, rfl⟩⟩
theorem nilAhead60 (sv : Value) (w : World) : (nilAhead 369 162 sv "treadle/datum.lay").run Tryz.prog w = .ok (some false) w := by kernel_rfl
theorem method60 (sv : Value) (w : World) : (method 369 162 sv "treadle/datum.lay").run Tryz.prog w = .ok (205, sv) w := by kernel_rfl
theorem nilAhead62 (sv : Value) (w : World) : (nilAhead 369 163 sv "treadle/datum.lay").run Tryz.prog w = .ok (some false) w := by kernel_rfl
theorem method62 (sv : Value) (w : World) : (method 369 163 sv "treadle/datum.lay").run Tryz.prog w = .ok (219, sv) w := by kernel_rfl
theorem join_behind {w w2 w3 w4 : World} {r : Nat} {a b c : Value} {zs : List Int} {v : Value} (h2 : w2.heap[r]? = some (.cells #[a, b, c] 29 (0, 0)) ∧ Below w.heap.size w w2) (h3 : Below w2.heap.size w2 w3) (h4 : Below w2.heap.size w3 w4)
    (ho : w4.ownsRow w2.heap.size 5 1 v zs.length (B8 zs)) : w4.heap[r]? = some (.cells #[a, b, c] 29 (0, 0)) ∧ Below w.heap.size w w4 ∧ Sl w4 v zs := by
  have h5 := h3.trans h4
  exact ⟨blk_of h5 h2.1 (lt_of h2.1), below_on h2.2 h5, sl_of_owns ho⟩
set_option maxHeartbeats 1600000 in
theorem join_6260 (k i : Int) (s : ByteArray) (l j : Int) (t : ByteArray) (w : World) (va vb : Value) (ha : chd k i s = .iface 163 va) (hb : chd l j t = .iface 162 vb) (ya yb : List Int) (hla : Lays' 219 va ya w) (hlb : Lays' 205 vb yb w) (hy : ya.length ≤ 1000) (_hy2 : yb.length ≤ 1000) :
    Calls Tryz.prog 98 #[vl k i s, vl l j t] w fun e w' => e = .returned (joinV (ya ++ yb)) ∧ Below w.heap.size w w' := by
  obtain ⟨hA, hB, hC, h0⟩ := three w (vo k i s) (vo l j t) (vo 0 0 emp)
  have ca := checked_any k i s
  have cb := checked_any l j t
  rw [ha] at ca
  rw [hb] at cb
  have CA := hid ca
  have CB := hid cb
  have LA := hid hla
  have LB := hid hlb
  clear ca cb ha hb hla hlb
  go_enter Tryz.func98, Tryz.ntmps98
  go_wp2
  show Code.wp _ _ _ _ (((w.alloc (vo k i s)).alloc (vo l j t)).alloc (vo 0 0 emp))
  obtain ⟨W0, hW0⟩ : ∃ W0, W0 = (((w.alloc (vo k i s)).alloc (vo l j t)).alloc (vo 0 0 emp)) := ⟨_, rfl⟩
  rw [← hW0] at hA hB hC h0 ⊢
  clear hW0
  obtain ⟨a0, a1, a2, -⟩ := vfacts hA
  obtain ⟨b0, b1, b2, -⟩ := vfacts hB
  have HB := hid hB
  have HC := hid hC
  have H0 := hid h0
  clear hA hB hC h0
  go_region_held (fun w' => w'.cell? ⟨w.heap.size, 0, none⟩ = some (.int .i64 k) ∧ w'.cell? ⟨w.heap.size, 1, none⟩ = some (.int .i64 i) ∧ w'.cell? ⟨w.heap.size, 2, none⟩ = some (.string s) ∧ w'.cell? ⟨w.heap.size + 1, 0, none⟩ = some (.int .i64 l) ∧ w'.cell? ⟨w.heap.size + 1, 1, none⟩ = some (.int .i64 j) ∧ w'.cell? ⟨w.heap.size + 1, 2, none⟩ = some (.string t)) (go_keep) (first
    | (go_at_call 125
       (with_reducible show Calls _ _ #[vl k i s] _ _)
       refine (CA.out _).mono ?_
       rintro e w1 ⟨rfl, hb1⟩
       have hb1' : Below W0.heap.size W0 w1 := ⟨hb1.os, hb1.tape, hb1.output, hb1.size, hb1.block⟩
       have a0 := (hb1'.cell (World.block_lt_of_cell? _ _ a0)).trans a0
       have a1 := (hb1'.cell (World.block_lt_of_cell? _ _ a1)).trans a1
       have a2 := (hb1'.cell (World.block_lt_of_cell? _ _ a2)).trans a2
       have b0 := (hb1'.cell (World.block_lt_of_cell? _ _ b0)).trans b0
       have b1 := (hb1'.cell (World.block_lt_of_cell? _ _ b1)).trans b1
       have b2 := (hb1'.cell (World.block_lt_of_cell? _ _ b2)).trans b2
       have H1 := hid (And.intro (blk_of hb1' HC.out (lt_of HC.out)) (below_on H0.out hb1'))
       clear hb1 hb1' CA)
    | (go_at_call 125
       refine (CB.out _).mono ?_
       rintro e w2 ⟨rfl, hb2⟩
       have a0 := (hb2.cell (World.block_lt_of_cell? _ _ a0)).trans a0
       have a1 := (hb2.cell (World.block_lt_of_cell? _ _ a1)).trans a1
       have a2 := (hb2.cell (World.block_lt_of_cell? _ _ a2)).trans a2
       have b0 := (hb2.cell (World.block_lt_of_cell? _ _ b0)).trans b0
       have b1 := (hb2.cell (World.block_lt_of_cell? _ _ b1)).trans b1
       have b2 := (hb2.cell (World.block_lt_of_cell? _ _ b2)).trans b2
       have H2 := hid (And.intro (blk_of hb2 H1.out.1 (lt_of H1.out.1)) (below_on H1.out.2 hb2))
       clear hb2))
  clear a0 a1 a2 b0 b1 b2 HB HC H0
  have hlen : ((ya ++ yb).length : Int) = (ya.length : Int) + yb.length := by simp
  have hmf : ∀ (fn : Fn) (first cap : Array Value) (w : World), (Instr.makeFunc fn first cap).run Tryz.prog w = .ok (.func fn first cap) w := fun _ _ _ _ => rfl
  have na60 := nilAhead60 vb
  have na62 := nilAhead62 va
  have mt60 := method60 vb
  have mt62 := method62 va
  go_wp2
  go_region_held (fun _ => True) (trivial) (first
    | (go_at_call 219
       go_loud (
       refine (LA.out w2.heap.size (.slice none 0 0) [] w2.drew (owns_nil8 _ _) (by simp) ⟨H2.out.2.os, H2.out.2.tape, H2.out.2.output, H2.out.2.size, H2.out.2.block⟩ (by simp)).mono ?_
       rintro e w3 h3
       obtain ⟨v3, rfl, ho3, hb3⟩ := h3
       have hb3' : Below w2.heap.size w2 w3 := ⟨hb3.os, hb3.tape, hb3.output, hb3.size, hb3.block⟩
       have H3 := hid (And.intro ho3 hb3')
       clear ho3 hb3 hb3'))
    | (go_at_call 205
       refine (LB.out w2.heap.size v3 ([] ++ ya) w3 H3.out.1 H3.out.2.size (below_on H2.out.2 H3.out.2) (by simp; omega)).mono ?_
       rintro e w4 h4
       obtain ⟨v4, rfl, ho4, hb4⟩ := h4
       obtain ⟨ao, cc, rfl⟩ := own_shape ho4
       have H4 := hid (join_behind H2.out H3.out.2 hb4 ho4)
       clear ho4 hb4))
  all_goals
    have hc := hid (sl_text (show Sl w4 (.slice ao (ya.length + yb.length) cc) (ya ++ yb) by simpa using H4.out.2.2))
    have g4 := hid H4.out.1
    obtain ⟨c0, c1, c2, ff⟩ := vfacts g4.out
    have hB4 := hid H4.out.2.1
    clear H4
    by_cases hlen : ((ya.length : Int) + yb.length) ≤ 256
    · have hj : joinV (ya ++ yb) = .tuple #[vl 2 0 (mkStr (ya ++ yb)), .int .i64 0] := by unfold joinV; rw [if_pos (by simp; omega)]
      have HJ := hid hj
      have hcv := hc.out
      clear hj
      go_wp2_with (
        go_at_call 126
        refine (tvalue_any _ _).mono ?_
        rintro e w5 ⟨rfl, hb5⟩
        have g5 := blk_of hb5 g4.out (lt_of g4.out)
        obtain ⟨c0, c1, c2, ff⟩ := vfacts g5
        have H5 := hid (And.intro g5 (below_on hB4.out hb5))
        clear hb5 g5)
      refine bodyPost_ret (ret_agg2 Tryz.results98 rfl (set3 H5.out.1 _ _ _)) rfl ?_
      exact ⟨by rw [HJ.out]; rfl, Below.set3 H5.out.2 (by omega) _ _ _⟩
    · have hj : joinV (ya ++ yb) = .tuple #[vl 0 0 emp, .int .i64 4] := by unfold joinV; rw [if_neg (by simp; omega)]
      have HJ := hid hj
      clear hj
      go_wp2
      refine bodyPost_ret (ret_agg2 Tryz.results98 rfl (set3 g4.out _ _ _)) rfl ?_
      exact ⟨by rw [HJ.out]; rfl, Below.set3 hB4.out (by omega) _ _ _⟩
set_option maxHeartbeats 1600000 in
theorem join_6262 (k i : Int) (s : ByteArray) (l j : Int) (t : ByteArray) (w : World) (va vb : Value) (ha : chd k i s = .iface 163 va) (hb : chd l j t = .iface 163 vb) (ya yb : List Int) (hla : Lays' 219 va ya w) (hlb : Lays' 219 vb yb w) (hy : ya.length ≤ 1000) (_hy2 : yb.length ≤ 1000) :
    Calls Tryz.prog 98 #[vl k i s, vl l j t] w fun e w' => e = .returned (joinV (ya ++ yb)) ∧ Below w.heap.size w w' := by
  obtain ⟨hA, hB, hC, h0⟩ := three w (vo k i s) (vo l j t) (vo 0 0 emp)
  have ca := checked_any k i s
  have cb := checked_any l j t
  rw [ha] at ca
  rw [hb] at cb
  have CA := hid ca
  have CB := hid cb
  have LA := hid hla
  have LB := hid hlb
  clear ca cb ha hb hla hlb
  go_enter Tryz.func98, Tryz.ntmps98
  go_wp2
  show Code.wp _ _ _ _ (((w.alloc (vo k i s)).alloc (vo l j t)).alloc (vo 0 0 emp))
  obtain ⟨W0, hW0⟩ : ∃ W0, W0 = (((w.alloc (vo k i s)).alloc (vo l j t)).alloc (vo 0 0 emp)) := ⟨_, rfl⟩
  rw [← hW0] at hA hB hC h0 ⊢
  clear hW0
  obtain ⟨a0, a1, a2, -⟩ := vfacts hA
  obtain ⟨b0, b1, b2, -⟩ := vfacts hB
  have HB := hid hB
  have HC := hid hC
  have H0 := hid h0
  clear hA hB hC h0
  go_region_held (fun w' => w'.cell? ⟨w.heap.size, 0, none⟩ = some (.int .i64 k) ∧ w'.cell? ⟨w.heap.size, 1, none⟩ = some (.int .i64 i) ∧ w'.cell? ⟨w.heap.size, 2, none⟩ = some (.string s) ∧ w'.cell? ⟨w.heap.size + 1, 0, none⟩ = some (.int .i64 l) ∧ w'.cell? ⟨w.heap.size + 1, 1, none⟩ = some (.int .i64 j) ∧ w'.cell? ⟨w.heap.size + 1, 2, none⟩ = some (.string t)) (go_keep) (first
    | (go_at_call 125
       (with_reducible show Calls _ _ #[vl k i s] _ _)
       refine (CA.out _).mono ?_
       rintro e w1 ⟨rfl, hb1⟩
       have hb1' : Below W0.heap.size W0 w1 := ⟨hb1.os, hb1.tape, hb1.output, hb1.size, hb1.block⟩
       have a0 := (hb1'.cell (World.block_lt_of_cell? _ _ a0)).trans a0
       have a1 := (hb1'.cell (World.block_lt_of_cell? _ _ a1)).trans a1
       have a2 := (hb1'.cell (World.block_lt_of_cell? _ _ a2)).trans a2
       have b0 := (hb1'.cell (World.block_lt_of_cell? _ _ b0)).trans b0
       have b1 := (hb1'.cell (World.block_lt_of_cell? _ _ b1)).trans b1
       have b2 := (hb1'.cell (World.block_lt_of_cell? _ _ b2)).trans b2
       have H1 := hid (And.intro (blk_of hb1' HC.out (lt_of HC.out)) (below_on H0.out hb1'))
       clear hb1 hb1' CA)
    | (go_at_call 125
       refine (CB.out _).mono ?_
       rintro e w2 ⟨rfl, hb2⟩
       have a0 := (hb2.cell (World.block_lt_of_cell? _ _ a0)).trans a0
       have a1 := (hb2.cell (World.block_lt_of_cell? _ _ a1)).trans a1
       have a2 := (hb2.cell (World.block_lt_of_cell? _ _ a2)).trans a2
       have b0 := (hb2.cell (World.block_lt_of_cell? _ _ b0)).trans b0
       have b1 := (hb2.cell (World.block_lt_of_cell? _ _ b1)).trans b1
       have b2 := (hb2.cell (World.block_lt_of_cell? _ _ b2)).trans b2
       have H2 := hid (And.intro (blk_of hb2 H1.out.1 (lt_of H1.out.1)) (below_on H1.out.2 hb2))
       clear hb2))
  clear a0 a1 a2 b0 b1 b2 HB HC H0
  have hlen : ((ya ++ yb).length : Int) = (ya.length : Int) + yb.length := by simp
  have hmf : ∀ (fn : Fn) (first cap : Array Value) (w : World), (Instr.makeFunc fn first cap).run Tryz.prog w = .ok (.func fn first cap) w := fun _ _ _ _ => rfl
  have na60 := nilAhead62 vb
  have na62 := nilAhead62 va
  have mt60 := method62 vb
  have mt62 := method62 va
  go_wp2
  go_region_held (fun _ => True) (trivial) (first
    | (go_at_call 219
       (with_reducible show Calls _ _ _ w2.drew _)
       go_loud (
       refine (LA.out w2.heap.size (.slice none 0 0) [] w2.drew (owns_nil8 _ _) (by simp) ⟨H2.out.2.os, H2.out.2.tape, H2.out.2.output, H2.out.2.size, H2.out.2.block⟩ (by simp)).mono ?_
       rintro e w3 h3
       obtain ⟨v3, rfl, ho3, hb3⟩ := h3
       have hb3' : Below w2.heap.size w2 w3 := ⟨hb3.os, hb3.tape, hb3.output, hb3.size, hb3.block⟩
       have H3 := hid (And.intro ho3 hb3')
       clear ho3 hb3 hb3'))
    | (go_at_call 219
       (with_reducible show Calls _ _ _ w3 _)
       refine (LB.out w2.heap.size v3 ([] ++ ya) w3 H3.out.1 H3.out.2.size (below_on H2.out.2 H3.out.2) (by simp; omega)).mono ?_
       rintro e w4 h4
       obtain ⟨v4, rfl, ho4, hb4⟩ := h4
       obtain ⟨ao, cc, rfl⟩ := own_shape ho4
       have H4 := hid (join_behind H2.out H3.out.2 hb4 ho4)
       clear ho4 hb4))
  all_goals
    have hc := hid (sl_text (show Sl w4 (.slice ao (ya.length + yb.length) cc) (ya ++ yb) by simpa using H4.out.2.2))
    have g4 := hid H4.out.1
    obtain ⟨c0, c1, c2, ff⟩ := vfacts g4.out
    have hB4 := hid H4.out.2.1
    clear H4
    by_cases hlen : ((ya.length : Int) + yb.length) ≤ 256
    · have hj : joinV (ya ++ yb) = .tuple #[vl 2 0 (mkStr (ya ++ yb)), .int .i64 0] := by unfold joinV; rw [if_pos (by simp; omega)]
      have HJ := hid hj
      have hcv := hc.out
      clear hj
      go_wp2_with (
        go_at_call 126
        refine (tvalue_any _ _).mono ?_
        rintro e w5 ⟨rfl, hb5⟩
        have g5 := blk_of hb5 g4.out (lt_of g4.out)
        obtain ⟨c0, c1, c2, ff⟩ := vfacts g5
        have H5 := hid (And.intro g5 (below_on hB4.out hb5))
        clear hb5 g5)
      refine bodyPost_ret (ret_agg2 Tryz.results98 rfl (set3 H5.out.1 _ _ _)) rfl ?_
      exact ⟨by rw [HJ.out]; rfl, Below.set3 H5.out.2 (by omega) _ _ _⟩
    · have hj : joinV (ya ++ yb) = .tuple #[vl 0 0 emp, .int .i64 4] := by unfold joinV; rw [if_neg (by simp; omega)]
      have HJ := hid hj
      clear hj
      go_wp2
      refine bodyPost_ret (ret_agg2 Tryz.results98 rfl (set3 g4.out _ _ _)) rfl ?_
      exact ⟨by rw [HJ.out]; rfl, Below.set3 hB4.out (by omega) _ _ _⟩
set_option maxHeartbeats 1600000 in
theorem join_6062 (k i : Int) (s : ByteArray) (l j : Int) (t : ByteArray) (w : World) (va vb : Value) (ha : chd k i s = .iface 162 va) (hb : chd l j t = .iface 163 vb) (ya yb : List Int) (hla : Lays' 205 va ya w) (hlb : Lays' 219 vb yb w) (hy : ya.length ≤ 1000) (_hy2 : yb.length ≤ 1000) :
    Calls Tryz.prog 98 #[vl k i s, vl l j t] w fun e w' => e = .returned (joinV (ya ++ yb)) ∧ Below w.heap.size w w' := by
  obtain ⟨hA, hB, hC, h0⟩ := three w (vo k i s) (vo l j t) (vo 0 0 emp)
  have ca := checked_any k i s
  have cb := checked_any l j t
  rw [ha] at ca
  rw [hb] at cb
  have CA := hid ca
  have CB := hid cb
  have LA := hid hla
  have LB := hid hlb
  clear ca cb ha hb hla hlb
  go_enter Tryz.func98, Tryz.ntmps98
  go_wp2
  show Code.wp _ _ _ _ (((w.alloc (vo k i s)).alloc (vo l j t)).alloc (vo 0 0 emp))
  obtain ⟨W0, hW0⟩ : ∃ W0, W0 = (((w.alloc (vo k i s)).alloc (vo l j t)).alloc (vo 0 0 emp)) := ⟨_, rfl⟩
  rw [← hW0] at hA hB hC h0 ⊢
  clear hW0
  obtain ⟨a0, a1, a2, -⟩ := vfacts hA
  obtain ⟨b0, b1, b2, -⟩ := vfacts hB
  have HB := hid hB
  have HC := hid hC
  have H0 := hid h0
  clear hA hB hC h0
  go_region_held (fun w' => w'.cell? ⟨w.heap.size, 0, none⟩ = some (.int .i64 k) ∧ w'.cell? ⟨w.heap.size, 1, none⟩ = some (.int .i64 i) ∧ w'.cell? ⟨w.heap.size, 2, none⟩ = some (.string s) ∧ w'.cell? ⟨w.heap.size + 1, 0, none⟩ = some (.int .i64 l) ∧ w'.cell? ⟨w.heap.size + 1, 1, none⟩ = some (.int .i64 j) ∧ w'.cell? ⟨w.heap.size + 1, 2, none⟩ = some (.string t)) (go_keep) (first
    | (go_at_call 125
       (with_reducible show Calls _ _ #[vl k i s] _ _)
       refine (CA.out _).mono ?_
       rintro e w1 ⟨rfl, hb1⟩
       have hb1' : Below W0.heap.size W0 w1 := ⟨hb1.os, hb1.tape, hb1.output, hb1.size, hb1.block⟩
       have a0 := (hb1'.cell (World.block_lt_of_cell? _ _ a0)).trans a0
       have a1 := (hb1'.cell (World.block_lt_of_cell? _ _ a1)).trans a1
       have a2 := (hb1'.cell (World.block_lt_of_cell? _ _ a2)).trans a2
       have b0 := (hb1'.cell (World.block_lt_of_cell? _ _ b0)).trans b0
       have b1 := (hb1'.cell (World.block_lt_of_cell? _ _ b1)).trans b1
       have b2 := (hb1'.cell (World.block_lt_of_cell? _ _ b2)).trans b2
       have H1 := hid (And.intro (blk_of hb1' HC.out (lt_of HC.out)) (below_on H0.out hb1'))
       clear hb1 hb1' CA)
    | (go_at_call 125
       refine (CB.out _).mono ?_
       rintro e w2 ⟨rfl, hb2⟩
       have a0 := (hb2.cell (World.block_lt_of_cell? _ _ a0)).trans a0
       have a1 := (hb2.cell (World.block_lt_of_cell? _ _ a1)).trans a1
       have a2 := (hb2.cell (World.block_lt_of_cell? _ _ a2)).trans a2
       have b0 := (hb2.cell (World.block_lt_of_cell? _ _ b0)).trans b0
       have b1 := (hb2.cell (World.block_lt_of_cell? _ _ b1)).trans b1
       have b2 := (hb2.cell (World.block_lt_of_cell? _ _ b2)).trans b2
       have H2 := hid (And.intro (blk_of hb2 H1.out.1 (lt_of H1.out.1)) (below_on H1.out.2 hb2))
       clear hb2))
  clear a0 a1 a2 b0 b1 b2 HB HC H0
  have hlen : ((ya ++ yb).length : Int) = (ya.length : Int) + yb.length := by simp
  have hmf : ∀ (fn : Fn) (first cap : Array Value) (w : World), (Instr.makeFunc fn first cap).run Tryz.prog w = .ok (.func fn first cap) w := fun _ _ _ _ => rfl
  have na60 := nilAhead62 vb
  have na62 := nilAhead60 va
  have mt60 := method62 vb
  have mt62 := method60 va
  go_wp2
  go_region_held (fun _ => True) (trivial) (first
    | (go_at_call 205
       (with_reducible show Calls _ _ _ w2.drew _)
       go_loud (
       refine (LA.out w2.heap.size (.slice none 0 0) [] w2.drew (owns_nil8 _ _) (by simp) ⟨H2.out.2.os, H2.out.2.tape, H2.out.2.output, H2.out.2.size, H2.out.2.block⟩ (by simp)).mono ?_
       rintro e w3 h3
       obtain ⟨v3, rfl, ho3, hb3⟩ := h3
       have hb3' : Below w2.heap.size w2 w3 := ⟨hb3.os, hb3.tape, hb3.output, hb3.size, hb3.block⟩
       have H3 := hid (And.intro ho3 hb3')
       clear ho3 hb3 hb3'))
    | (go_at_call 219
       (with_reducible show Calls _ _ _ w3 _)
       refine (LB.out w2.heap.size v3 ([] ++ ya) w3 H3.out.1 H3.out.2.size (below_on H2.out.2 H3.out.2) (by simp; omega)).mono ?_
       rintro e w4 h4
       obtain ⟨v4, rfl, ho4, hb4⟩ := h4
       obtain ⟨ao, cc, rfl⟩ := own_shape ho4
       have H4 := hid (join_behind H2.out H3.out.2 hb4 ho4)
       clear ho4 hb4))
  all_goals
    have hc := hid (sl_text (show Sl w4 (.slice ao (ya.length + yb.length) cc) (ya ++ yb) by simpa using H4.out.2.2))
    have g4 := hid H4.out.1
    obtain ⟨c0, c1, c2, ff⟩ := vfacts g4.out
    have hB4 := hid H4.out.2.1
    clear H4
    by_cases hlen : ((ya.length : Int) + yb.length) ≤ 256
    · have hj : joinV (ya ++ yb) = .tuple #[vl 2 0 (mkStr (ya ++ yb)), .int .i64 0] := by unfold joinV; rw [if_pos (by simp; omega)]
      have HJ := hid hj
      have hcv := hc.out
      clear hj
      go_wp2_with (
        go_at_call 126
        refine (tvalue_any _ _).mono ?_
        rintro e w5 ⟨rfl, hb5⟩
        have g5 := blk_of hb5 g4.out (lt_of g4.out)
        obtain ⟨c0, c1, c2, ff⟩ := vfacts g5
        have H5 := hid (And.intro g5 (below_on hB4.out hb5))
        clear hb5 g5)
      refine bodyPost_ret (ret_agg2 Tryz.results98 rfl (set3 H5.out.1 _ _ _)) rfl ?_
      exact ⟨by rw [HJ.out]; rfl, Below.set3 H5.out.2 (by omega) _ _ _⟩
    · have hj : joinV (ya ++ yb) = .tuple #[vl 0 0 emp, .int .i64 4] := by unfold joinV; rw [if_neg (by simp; omega)]
      have HJ := hid hj
      clear hj
      go_wp2
      refine bodyPost_ret (ret_agg2 Tryz.results98 rfl (set3 g4.out _ _ _)) rfl ?_
      exact ⟨by rw [HJ.out]; rfl, Below.set3 hB4.out (by omega) _ _ _⟩
set_option maxHeartbeats 1600000 in
theorem join_6060 (k i : Int) (s : ByteArray) (l j : Int) (t : ByteArray) (w : World) (va vb : Value) (ha : chd k i s = .iface 162 va) (hb : chd l j t = .iface 162 vb) (ya yb : List Int) (hla : Lays' 205 va ya w) (hlb : Lays' 205 vb yb w) (hy : ya.length ≤ 1000) (_hy2 : yb.length ≤ 1000) :
    Calls Tryz.prog 98 #[vl k i s, vl l j t] w fun e w' => e = .returned (joinV (ya ++ yb)) ∧ Below w.heap.size w w' := by
  obtain ⟨hA, hB, hC, h0⟩ := three w (vo k i s) (vo l j t) (vo 0 0 emp)
  have ca := checked_any k i s
  have cb := checked_any l j t
  rw [ha] at ca
  rw [hb] at cb
  have CA := hid ca
  have CB := hid cb
  have LA := hid hla
  have LB := hid hlb
  clear ca cb ha hb hla hlb
  go_enter Tryz.func98, Tryz.ntmps98
  go_wp2
  show Code.wp _ _ _ _ (((w.alloc (vo k i s)).alloc (vo l j t)).alloc (vo 0 0 emp))
  obtain ⟨W0, hW0⟩ : ∃ W0, W0 = (((w.alloc (vo k i s)).alloc (vo l j t)).alloc (vo 0 0 emp)) := ⟨_, rfl⟩
  rw [← hW0] at hA hB hC h0 ⊢
  clear hW0
  obtain ⟨a0, a1, a2, -⟩ := vfacts hA
  obtain ⟨b0, b1, b2, -⟩ := vfacts hB
  have HB := hid hB
  have HC := hid hC
  have H0 := hid h0
  clear hA hB hC h0
  go_region_held (fun w' => w'.cell? ⟨w.heap.size, 0, none⟩ = some (.int .i64 k) ∧ w'.cell? ⟨w.heap.size, 1, none⟩ = some (.int .i64 i) ∧ w'.cell? ⟨w.heap.size, 2, none⟩ = some (.string s) ∧ w'.cell? ⟨w.heap.size + 1, 0, none⟩ = some (.int .i64 l) ∧ w'.cell? ⟨w.heap.size + 1, 1, none⟩ = some (.int .i64 j) ∧ w'.cell? ⟨w.heap.size + 1, 2, none⟩ = some (.string t)) (go_keep) (first
    | (go_at_call 125
       (with_reducible show Calls _ _ #[vl k i s] _ _)
       refine (CA.out _).mono ?_
       rintro e w1 ⟨rfl, hb1⟩
       have hb1' : Below W0.heap.size W0 w1 := ⟨hb1.os, hb1.tape, hb1.output, hb1.size, hb1.block⟩
       have a0 := (hb1'.cell (World.block_lt_of_cell? _ _ a0)).trans a0
       have a1 := (hb1'.cell (World.block_lt_of_cell? _ _ a1)).trans a1
       have a2 := (hb1'.cell (World.block_lt_of_cell? _ _ a2)).trans a2
       have b0 := (hb1'.cell (World.block_lt_of_cell? _ _ b0)).trans b0
       have b1 := (hb1'.cell (World.block_lt_of_cell? _ _ b1)).trans b1
       have b2 := (hb1'.cell (World.block_lt_of_cell? _ _ b2)).trans b2
       have H1 := hid (And.intro (blk_of hb1' HC.out (lt_of HC.out)) (below_on H0.out hb1'))
       clear hb1 hb1' CA)
    | (go_at_call 125
       refine (CB.out _).mono ?_
       rintro e w2 ⟨rfl, hb2⟩
       have a0 := (hb2.cell (World.block_lt_of_cell? _ _ a0)).trans a0
       have a1 := (hb2.cell (World.block_lt_of_cell? _ _ a1)).trans a1
       have a2 := (hb2.cell (World.block_lt_of_cell? _ _ a2)).trans a2
       have b0 := (hb2.cell (World.block_lt_of_cell? _ _ b0)).trans b0
       have b1 := (hb2.cell (World.block_lt_of_cell? _ _ b1)).trans b1
       have b2 := (hb2.cell (World.block_lt_of_cell? _ _ b2)).trans b2
       have H2 := hid (And.intro (blk_of hb2 H1.out.1 (lt_of H1.out.1)) (below_on H1.out.2 hb2))
       clear hb2))
  clear a0 a1 a2 b0 b1 b2 HB HC H0
  have hlen : ((ya ++ yb).length : Int) = (ya.length : Int) + yb.length := by simp
  have hmf : ∀ (fn : Fn) (first cap : Array Value) (w : World), (Instr.makeFunc fn first cap).run Tryz.prog w = .ok (.func fn first cap) w := fun _ _ _ _ => rfl
  have na60 := nilAhead60 vb
  have na62 := nilAhead60 va
  have mt60 := method60 vb
  have mt62 := method60 va
  go_wp2
  go_region_held (fun _ => True) (trivial) (first
    | (go_at_call 205
       (with_reducible show Calls _ _ _ w2.drew _)
       go_loud (
       refine (LA.out w2.heap.size (.slice none 0 0) [] w2.drew (owns_nil8 _ _) (by simp) ⟨H2.out.2.os, H2.out.2.tape, H2.out.2.output, H2.out.2.size, H2.out.2.block⟩ (by simp)).mono ?_
       rintro e w3 h3
       obtain ⟨v3, rfl, ho3, hb3⟩ := h3
       have hb3' : Below w2.heap.size w2 w3 := ⟨hb3.os, hb3.tape, hb3.output, hb3.size, hb3.block⟩
       have H3 := hid (And.intro ho3 hb3')
       clear ho3 hb3 hb3'))
    | (go_at_call 205
       (with_reducible show Calls _ _ _ w3 _)
       refine (LB.out w2.heap.size v3 ([] ++ ya) w3 H3.out.1 H3.out.2.size (below_on H2.out.2 H3.out.2) (by simp; omega)).mono ?_
       rintro e w4 h4
       obtain ⟨v4, rfl, ho4, hb4⟩ := h4
       obtain ⟨ao, cc, rfl⟩ := own_shape ho4
       have H4 := hid (join_behind H2.out H3.out.2 hb4 ho4)
       clear ho4 hb4))
  all_goals
    have hc := hid (sl_text (show Sl w4 (.slice ao (ya.length + yb.length) cc) (ya ++ yb) by simpa using H4.out.2.2))
    have g4 := hid H4.out.1
    obtain ⟨c0, c1, c2, ff⟩ := vfacts g4.out
    have hB4 := hid H4.out.2.1
    clear H4
    by_cases hlen : ((ya.length : Int) + yb.length) ≤ 256
    · have hj : joinV (ya ++ yb) = .tuple #[vl 2 0 (mkStr (ya ++ yb)), .int .i64 0] := by unfold joinV; rw [if_pos (by simp; omega)]
      have HJ := hid hj
      have hcv := hc.out
      clear hj
      go_wp2_with (
        go_at_call 126
        refine (tvalue_any _ _).mono ?_
        rintro e w5 ⟨rfl, hb5⟩
        have g5 := blk_of hb5 g4.out (lt_of g4.out)
        obtain ⟨c0, c1, c2, ff⟩ := vfacts g5
        have H5 := hid (And.intro g5 (below_on hB4.out hb5))
        clear hb5 g5)
      refine bodyPost_ret (ret_agg2 Tryz.results98 rfl (set3 H5.out.1 _ _ _)) rfl ?_
      exact ⟨by rw [HJ.out]; rfl, Below.set3 H5.out.2 (by omega) _ _ _⟩
    · have hj : joinV (ya ++ yb) = .tuple #[vl 0 0 emp, .int .i64 4] := by unfold joinV; rw [if_neg (by simp; omega)]
      have HJ := hid hj
      clear hj
      go_wp2
      refine bodyPost_ret (ret_agg2 Tryz.results98 rfl (set3 g4.out _ _ _)) rfl ?_
      exact ⟨by rw [HJ.out]; rfl, Below.set3 hB4.out (by omega) _ _ _⟩
end Go.Proofs.YthcoigbkdbkojabGreat
