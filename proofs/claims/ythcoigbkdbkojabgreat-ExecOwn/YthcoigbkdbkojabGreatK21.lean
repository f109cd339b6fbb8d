import Derived.Test.YthcoigbkdbkojabGreatK20
set_option maxRecDepth 100000
namespace Go.Proofs.YthcoigbkdbkojabGreat
open Go.RowKit Go.Lib
set_option maxHeartbeats 1600000 in
theorem join_nil_ (k i : Int) (s : ByteArray) (l j : Int) (t : ByteArray) (w : World) (ha : chd k i s = .nilIface) :
    Calls Tryz.prog 98 #[vl k i s, vl l j t] w fun e w' => e = .returned (.tuple #[vl 0 0 emp, .int .i64 14]) ∧ Below w.heap.size w w' := by
  obtain ⟨hA, hB, hC, h0⟩ := three w (vo k i s) (vo l j t) (vo 0 0 emp)
  have ca := checked_any k i s
  have cb := checked_any l j t
  rw [ha] at ca
  obtain ⟨cbv, hcb⟩ : ∃ cbv, cbv = chd l j t := ⟨_, rfl⟩
  rw [← hcb] at cb
  clear hcb
  have CA := hid ca
  have CB := hid cb
  clear ca cb ha
  go_enter Tryz.func98, Tryz.ntmps98
  go_wp2
  show Code.wp _ _ _ _ (((w.alloc (vo k i s)).alloc (vo l j t)).alloc (vo 0 0 emp))
  obtain ⟨W0, hW0⟩ : ∃ W0, W0 = (((w.alloc (vo k i s)).alloc (vo l j t)).alloc (vo 0 0 emp)) := ⟨_, rfl⟩
  rw [← hW0] at hA hB hC h0 ⊢
  clear hW0
  obtain ⟨a0, a1, a2, -⟩ := vfacts hA
  obtain ⟨b0, b1, b2, -⟩ := vfacts hB
  have HB := hid hB
  have HC := hid hC
  have H0 := hid h0
  clear hA hB hC h0
  go_region_held (fun w' => w'.cell? ⟨w.heap.size, 0, none⟩ = some (.int .i64 k) ∧ w'.cell? ⟨w.heap.size, 1, none⟩ = some (.int .i64 i) ∧ w'.cell? ⟨w.heap.size, 2, none⟩ = some (.string s) ∧ w'.cell? ⟨w.heap.size + 1, 0, none⟩ = some (.int .i64 l) ∧ w'.cell? ⟨w.heap.size + 1, 1, none⟩ = some (.int .i64 j) ∧ w'.cell? ⟨w.heap.size + 1, 2, none⟩ = some (.string t)) (go_keep) (first
    | (go_at_call 125
       (with_reducible show Calls _ _ #[vl k i s] _ _)
       refine (CA.out _).mono ?_
       rintro e w1 ⟨rfl, hb1⟩
       have hb1' : Below W0.heap.size W0 w1 := ⟨hb1.os, hb1.tape, hb1.output, hb1.size, hb1.block⟩
       have a0 := (hb1'.cell (World.block_lt_of_cell? _ _ a0)).trans a0
       have a1 := (hb1'.cell (World.block_lt_of_cell? _ _ a1)).trans a1
       have a2 := (hb1'.cell (World.block_lt_of_cell? _ _ a2)).trans a2
       have b0 := (hb1'.cell (World.block_lt_of_cell? _ _ b0)).trans b0
       have b1 := (hb1'.cell (World.block_lt_of_cell? _ _ b1)).trans b1
       have b2 := (hb1'.cell (World.block_lt_of_cell? _ _ b2)).trans b2
       have H1 := hid (And.intro (blk_of hb1' HC.out (lt_of HC.out)) (below_on H0.out hb1'))
       clear hb1 hb1' CA)
    | (go_at_call 125
       refine (CB.out _).mono ?_
       rintro e w2 ⟨rfl, hb2⟩
       have a0 := (hb2.cell (World.block_lt_of_cell? _ _ a0)).trans a0
       have a1 := (hb2.cell (World.block_lt_of_cell? _ _ a1)).trans a1
       have a2 := (hb2.cell (World.block_lt_of_cell? _ _ a2)).trans a2
       have b0 := (hb2.cell (World.block_lt_of_cell? _ _ b0)).trans b0
       have b1 := (hb2.cell (World.block_lt_of_cell? _ _ b1)).trans b1
       have b2 := (hb2.cell (World.block_lt_of_cell? _ _ b2)).trans b2
       have H2 := hid (And.intro (blk_of hb2 H1.out.1 (lt_of H1.out.1)) (below_on H1.out.2 hb2))
       clear hb2))
  obtain ⟨r0, r1, r2, fr⟩ := vfacts H2.out.1
  go_wp2
  refine bodyPost_ret (ret_agg2 Tryz.results98 rfl (set3 H2.out.1 _ _ _)) rfl ?_
  exact ⟨rfl, Below.set3 H2.out.2 (by omega) _ _ _⟩
set_option maxHeartbeats 1600000 in
theorem join_60_nil (k i : Int) (s : ByteArray) (l j : Int) (t : ByteArray) (w : World) (va : Value) (ha : chd k i s = .iface 162 va) (hb : chd l j t = .nilIface) :
    Calls Tryz.prog 98 #[vl k i s, vl l j t] w fun e w' => e = .returned (.tuple #[vl 0 0 emp, .int .i64 14]) ∧ Below w.heap.size w w' := by
  obtain ⟨hA, hB, hC, h0⟩ := three w (vo k i s) (vo l j t) (vo 0 0 emp)
  have ca := checked_any k i s
  have cb := checked_any l j t
  rw [ha] at ca
  rw [hb] at cb
  have CA := hid ca
  have CB := hid cb
  clear ca cb ha hb
  go_enter Tryz.func98, Tryz.ntmps98
  go_wp2
  show Code.wp _ _ _ _ (((w.alloc (vo k i s)).alloc (vo l j t)).alloc (vo 0 0 emp))
  obtain ⟨W0, hW0⟩ : ∃ W0, W0 = (((w.alloc (vo k i s)).alloc (vo l j t)).alloc (vo 0 0 emp)) := ⟨_, rfl⟩
  rw [← hW0] at hA hB hC h0 ⊢
  clear hW0
  obtain ⟨a0, a1, a2, -⟩ := vfacts hA
  obtain ⟨b0, b1, b2, -⟩ := vfacts hB
  have HB := hid hB
  have HC := hid hC
  have H0 := hid h0
  clear hA hB hC h0
  go_region_held (fun w' => w'.cell? ⟨w.heap.size, 0, none⟩ = some (.int .i64 k) ∧ w'.cell? ⟨w.heap.size, 1, none⟩ = some (.int .i64 i) ∧ w'.cell? ⟨w.heap.size, 2, none⟩ = some (.string s) ∧ w'.cell? ⟨w.heap.size + 1, 0, none⟩ = some (.int .i64 l) ∧ w'.cell? ⟨w.heap.size + 1, 1, none⟩ = some (.int .i64 j) ∧ w'.cell? ⟨w.heap.size + 1, 2, none⟩ = some (.string t)) (go_keep) (first
    | (go_at_call 125
       (with_reducible show Calls _ _ #[vl k i s] _ _)
       refine (CA.out _).mono ?_
       rintro e w1 ⟨rfl, hb1⟩
       have hb1' : Below W0.heap.size W0 w1 := ⟨hb1.os, hb1.tape, hb1.output, hb1.size, hb1.block⟩
       have a0 := (hb1'.cell (World.block_lt_of_cell? _ _ a0)).trans a0
       have a1 := (hb1'.cell (World.block_lt_of_cell? _ _ a1)).trans a1
       have a2 := (hb1'.cell (World.block_lt_of_cell? _ _ a2)).trans a2
       have b0 := (hb1'.cell (World.block_lt_of_cell? _ _ b0)).trans b0
       have b1 := (hb1'.cell (World.block_lt_of_cell? _ _ b1)).trans b1
       have b2 := (hb1'.cell (World.block_lt_of_cell? _ _ b2)).trans b2
       have H1 := hid (And.intro (blk_of hb1' HC.out (lt_of HC.out)) (below_on H0.out hb1'))
       clear hb1 hb1' CA)
    | (go_at_call 125
       refine (CB.out _).mono ?_
       rintro e w2 ⟨rfl, hb2⟩
       have a0 := (hb2.cell (World.block_lt_of_cell? _ _ a0)).trans a0
       have a1 := (hb2.cell (World.block_lt_of_cell? _ _ a1)).trans a1
       have a2 := (hb2.cell (World.block_lt_of_cell? _ _ a2)).trans a2
       have b0 := (hb2.cell (World.block_lt_of_cell? _ _ b0)).trans b0
       have b1 := (hb2.cell (World.block_lt_of_cell? _ _ b1)).trans b1
       have b2 := (hb2.cell (World.block_lt_of_cell? _ _ b2)).trans b2
       have H2 := hid (And.intro (blk_of hb2 H1.out.1 (lt_of H1.out.1)) (below_on H1.out.2 hb2))
       clear hb2))
  obtain ⟨r0, r1, r2, fr⟩ := vfacts H2.out.1
  go_wp2
  refine bodyPost_ret (ret_agg2 Tryz.results98 rfl (set3 H2.out.1 _ _ _)) rfl ?_
  exact ⟨rfl, Below.set3 H2.out.2 (by omega) _ _ _⟩
set_option maxHeartbeats 1600000 in
theorem join_62_nil (k i : Int) (s : ByteArray) (l j : Int) (t : ByteArray) (w : World) (va : Value) (ha : chd k i s = .iface 163 va) (hb : chd l j t = .nilIface) :
    Calls Tryz.prog 98 #[vl k i s, vl l j t] w fun e w' => e = .returned (.tuple #[vl 0 0 emp, .int .i64 14]) ∧ Below w.heap.size w w' := by
  obtain ⟨hA, hB, hC, h0⟩ := three w (vo k i s) (vo l j t) (vo 0 0 emp)
  have ca := checked_any k i s
  have cb := checked_any l j t
  rw [ha] at ca
  rw [hb] at cb
  have CA := hid ca
  have CB := hid cb
  clear ca cb ha hb
  go_enter Tryz.func98, Tryz.ntmps98
  go_wp2
  show Code.wp _ _ _ _ (((w.alloc (vo k i s)).alloc (vo l j t)).alloc (vo 0 0 emp))
  obtain ⟨W0, hW0⟩ : ∃ W0, W0 = (((w.alloc (vo k i s)).alloc (vo l j t)).alloc (vo 0 0 emp)) := ⟨_, rfl⟩
  rw [← hW0] at hA hB hC h0 ⊢
  clear hW0
  obtain ⟨a0, a1, a2, -⟩ := vfacts hA
  obtain ⟨b0, b1, b2, -⟩ := vfacts hB
  have HB := hid hB
  have HC := hid hC
  have H0 := hid h0
  clear hA hB hC h0
  go_region_held (fun w' => w'.cell? ⟨w.heap.size, 0, none⟩ = some (.int .i64 k) ∧ w'.cell? ⟨w.heap.size, 1, none⟩ = some (.int .i64 i) ∧ w'.cell? ⟨w.heap.size, 2, none⟩ = some (.string s) ∧ w'.cell? ⟨w.heap.size + 1, 0, none⟩ = some (.int .i64 l) ∧ w'.cell? ⟨w.heap.size + 1, 1, none⟩ = some (.int .i64 j) ∧ w'.cell? ⟨w.heap.size + 1, 2, none⟩ = some (.string t)) (go_keep) (first
    | (go_at_call 125
       (with_reducible show Calls _ _ #[vl k i s] _ _)
       refine (CA.out _).mono ?_
       rintro e w1 ⟨rfl, hb1⟩
       have hb1' : Below W0.heap.size W0 w1 := ⟨hb1.os, hb1.tape, hb1.output, hb1.size, hb1.block⟩
       have a0 := (hb1'.cell (World.block_lt_of_cell? _ _ a0)).trans a0
       have a1 := (hb1'.cell (World.block_lt_of_cell? _ _ a1)).trans a1
       have a2 := (hb1'.cell (World.block_lt_of_cell? _ _ a2)).trans a2
       have b0 := (hb1'.cell (World.block_lt_of_cell? _ _ b0)).trans b0
       have b1 := (hb1'.cell (World.block_lt_of_cell? _ _ b1)).trans b1
       have b2 := (hb1'.cell (World.block_lt_of_cell? _ _ b2)).trans b2
       have H1 := hid (And.intro (blk_of hb1' HC.out (lt_of HC.out)) (below_on H0.out hb1'))
       clear hb1 hb1' CA)
    | (go_at_call 125
       refine (CB.out _).mono ?_
       rintro e w2 ⟨rfl, hb2⟩
       have a0 := (hb2.cell (World.block_lt_of_cell? _ _ a0)).trans a0
       have a1 := (hb2.cell (World.block_lt_of_cell? _ _ a1)).trans a1
       have a2 := (hb2.cell (World.block_lt_of_cell? _ _ a2)).trans a2
       have b0 := (hb2.cell (World.block_lt_of_cell? _ _ b0)).trans b0
       have b1 := (hb2.cell (World.block_lt_of_cell? _ _ b1)).trans b1
       have b2 := (hb2.cell (World.block_lt_of_cell? _ _ b2)).trans b2
       have H2 := hid (And.intro (blk_of hb2 H1.out.1 (lt_of H1.out.1)) (below_on H1.out.2 hb2))
       clear hb2))
  obtain ⟨r0, r1, r2, fr⟩ := vfacts H2.out.1
  go_wp2
  refine bodyPost_ret (ret_agg2 Tryz.results98 rfl (set3 H2.out.1 _ _ _)) rfl ?_
  exact ⟨rfl, Below.set3 H2.out.2 (by omega) _ _ _⟩
end Go.Proofs.YthcoigbkdbkojabGreat
namespace Go.Proofs.YthcoigbkdbkojabGreat
open Go.RowKit
def Oct (bs : List Int) : Prop := ∀ x ∈ bs, 0 ≤ x ∧ x < 256
theorem mkStr_size (l : List Int) : (mkStr l).size = l.length := by
  unfold mkStr ByteArray.size
  simp
theorem oct_str (s : ByteArray) : Oct (strBs s) := by
  intro x hx
  unfold strBs at hx
  obtain ⟨b, _, rfl⟩ := List.mem_map.1 hx
  have := b.toNat_lt
  omega
def Digs (dig : Int → List Int) (w0 : World) : Prop := ∀ i, -9223372036854775808 ≤ i → i ≤ 9223372036854775807 → Lays' 205 (.int .i64 i) (dig i) w0 ∧ (dig i).length ≤ 21 ∧ Oct (dig i)
theorem Digs.below {dig : Int → List Int} {w0 w1 : World} (h : Digs dig w0) (hb : Below w0.heap.size w0 w1) : Digs dig w1 := by
  intro i h0 h1
  obtain ⟨hl, h2, h3⟩ := h i h0 h1
  refine ⟨?_, h2, h3⟩
  intro B v xs w ho hB hw hx
  exact hl B v xs w ho hB (below_on hb hw) hx
def txt (dig : Int → List Int) (k i : Int) (s : ByteArray) : Option (List Int) := if k = 1 ∧ s = emp then some (dig i) else if k = 2 ∧ i = 0 ∧ s.size ≤ 256 then some (strBs s) else none
def joinT (a b : Option (List Int)) : Value := match a, b with
  | some x, some y => joinV (x ++ y)
  | _, _ => .tuple #[vl 0 0 emp, .int .i64 14]
theorem tlays (s : ByteArray) (w : World) (hs : s.size ≤ 256) : Lays' 219 (.string s) (strBs s) w := by
  intro B v xs w ho hB _ hx
  exact tlay_any B v xs s w ho hB (by omega)
theorem join_any (dig : Int → List Int) (k i : Int) (s : ByteArray) (l j : Int) (t : ByteArray) (w : World) (hd : Digs dig w) (hi0 : -9223372036854775808 ≤ i) (hi1 : i ≤ 9223372036854775807) (hj0 : -9223372036854775808 ≤ j) (hj1 : j ≤ 9223372036854775807) :
    Calls Tryz.prog 98 #[vl k i s, vl l j t] w fun e w' => e = .returned (joinT (txt dig k i s) (txt dig l j t)) ∧ Below w.heap.size w w' := by
  have di := hd i hi0 hi1
  have dj := hd j hj0 hj1
  have hsl := strBs_len s
  have htl := strBs_len t
  rcases chd_cases k i s with ⟨k1, s1, ha⟩ | ⟨k2, i2, s2, ha⟩ | ⟨ha, n1, n2⟩
  · have ta : txt dig k i s = some (dig i) := by unfold txt; rw [if_pos ⟨k1, s1⟩]
    rcases chd_cases l j t with ⟨l1, t1, hb⟩ | ⟨l2, j2, t2, hb⟩ | ⟨hb, m1, m2⟩
    · have tb : txt dig l j t = some (dig j) := by unfold txt; rw [if_pos ⟨l1, t1⟩]
      rw [ta, tb]
      exact join_6060 k i s l j t w _ _ ha hb _ _ di.1 dj.1 (by omega) (by omega)
    · have tb : txt dig l j t = some (strBs t) := by unfold txt; rw [if_neg (by omega), if_pos ⟨l2, j2, t2⟩]
      rw [ta, tb]
      exact join_6062 k i s l j t w _ _ ha hb _ _ di.1 (tlays t w t2) (by omega) (by omega)
    · have tb : txt dig l j t = none := by unfold txt; rw [if_neg m1, if_neg m2]
      rw [ta, tb]
      exact join_60_nil k i s l j t w _ ha hb
  · have ta : txt dig k i s = some (strBs s) := by unfold txt; rw [if_neg (by omega), if_pos ⟨k2, i2, s2⟩]
    rcases chd_cases l j t with ⟨l1, t1, hb⟩ | ⟨l2, j2, t2, hb⟩ | ⟨hb, m1, m2⟩
    · have tb : txt dig l j t = some (dig j) := by unfold txt; rw [if_pos ⟨l1, t1⟩]
      rw [ta, tb]
      exact join_6260 k i s l j t w _ _ ha hb _ _ (tlays s w s2) dj.1 (by omega) (by omega)
    · have tb : txt dig l j t = some (strBs t) := by unfold txt; rw [if_neg (by omega), if_pos ⟨l2, j2, t2⟩]
      rw [ta, tb]
      exact join_6262 k i s l j t w _ _ ha hb _ _ (tlays s w s2) (tlays t w t2) (by omega) (by omega)
    · have tb : txt dig l j t = none := by unfold txt; rw [if_neg m1, if_neg m2]
      rw [ta, tb]
      exact join_62_nil k i s l j t w _ ha hb
  · have ta : txt dig k i s = none := by unfold txt; rw [if_neg n1, if_neg n2]
    rw [ta]
    exact join_nil_ k i s l j t w ha
end Go.Proofs.YthcoigbkdbkojabGreat
namespace Go.Proofs.YthcoigbkdbkojabGreat
open Go.RowKit Go.MapKept
open V (hp_new hp_lt hp_below hp_alloc kl)
def joinP (dig : Int → List Int) (a b : Vd) : Vd × Int := match txt dig a.k a.i a.t, txt dig b.k b.i b.t with
  | some x, some y => if (x ++ y).length ≤ 256 then (⟨2, 0, mkStr (x ++ y)⟩, 0) else (z0, 4)
  | _, _ => (z0, 14)
theorem joinT_P (dig : Int → List Int) (a b : Vd) : joinT (txt dig a.k a.i a.t) (txt dig b.k b.i b.t) = .tuple #[(joinP dig a b).1.val, .int .i64 (joinP dig a b).2] := by
  unfold joinT joinP
  cases txt dig a.k a.i a.t with
  | none => rfl
  | some x =>
    cases txt dig b.k b.i b.t with
    | none => rfl
    | some y =>
      unfold joinV
      dsimp only
      by_cases h : (x ++ y).length ≤ 256
      · rw [if_pos h, if_pos h]
      · rw [if_neg h, if_neg h]; rfl
theorem joinP_er (dig : Int → List Int) (a b : Vd) : (joinP dig a b).2 = 0 ∨ isErr (joinP dig a b).2 := by
  unfold joinP isErr
  cases txt dig a.k a.i a.t with
  | none => simp
  | some x =>
    cases txt dig b.k b.i b.t with
    | none => simp
    | some y =>
      dsimp only
      by_cases h : (x ++ y).length ≤ 256
      · rw [if_pos h]; simp
      · rw [if_neg h]; simp
section
variable {w w' : World} {B mb M : Nat} {s : Ms} {td : List Vd} {lk : List (ByteArray × ByteArray)} {kv : List (ByteArray × Value)}
def Rck (B : Nat) (w : World) (mb : Nat) (s : Ms) (td : List Vd) (lk : List (ByteArray × ByteArray)) (M : Nat) (kv : List (ByteArray × Value)) (a : Int) (R : Vd × Int) : Ending → World → Prop :=
  if R.2 = 0 then Did B w mb s (s.set a R.1) td lk M kv else Gave B w mb s td lk M kv (stE R.2)
set_option maxHeartbeats 1600000 in
theorem op89_ok (x : Ins) (rk ri : Int) (rt : ByteArray) (h : MX w B mb s td lk M kv) (a0 : 0 ≤ x.a) (a1 : x.a < 16) (b0 : 0 ≤ x.b) (b1 : x.b < 16) (c0 : 0 ≤ x.c) (c1 : x.c < 16)
    (hD : ∀ W, Below w.heap.size w W → Calls Tryz.prog 95 #[(s.rg x.b).val, (s.rg x.c).val] W fun e w' => e = .returned (.tuple #[vl rk ri rt, .int .i64 0]) ∧ Below W.heap.size W w') :
    Calls Tryz.prog 68 #[.pointer (some ⟨mb, 0, none⟩), x.val] w (Did B w mb s (s.set x.a ⟨rk, ri, rt⟩) td lk M kv) := by
  have hb0 : Below w.heap.size w (w.alloc (io x.op x.a x.b x.c x.n x.k x.i x.t)) := below1 w _
  have H := hid (reck_ok x 95 (enters_of Tryz.func95 (by kernel_rfl) rfl) rk ri rt (h.below hb0) a0 a1 b0 b1 c0 c1 (fun W hW => hD W (below_on hb0 hW)))
  have HB := hid hb0
  clear h hb0 hD a0 a1 b0 b1 c0 c1
  obtain ⟨op, a, b, c, n', vk, vi, vt⟩ := x
  unfold Ins.val at H ⊢
  go_enter Tryz.func68, Tryz.ntmps68
  go_wp2_with (
    go_at_call 94
    refine H.out.mono ?_
    rintro e w1 ⟨rfl, hx1, hb1⟩
    have H1 := hid (And.intro hx1 hb1)
    clear hx1 hb1)
  go_end0
  exact ⟨rfl, H1.out.1, (bsx HB.out).trans H1.out.2 (fun _ _ e => e)⟩
set_option maxHeartbeats 1600000 in
theorem op89_no (x : Ins) (rk ri : Int) (rt : ByteArray) (er : Int) (hie : isErr er) (h : MX w B mb s td lk M kv) (a0 : 0 ≤ x.a) (a1 : x.a < 16) (b0 : 0 ≤ x.b) (b1 : x.b < 16) (c0 : 0 ≤ x.c) (c1 : x.c < 16)
    (hD : ∀ W, Below w.heap.size w W → Calls Tryz.prog 95 #[(s.rg x.b).val, (s.rg x.c).val] W fun e w' => e = .returned (.tuple #[vl rk ri rt, .int .i64 er]) ∧ Below W.heap.size W w') :
    Calls Tryz.prog 68 #[.pointer (some ⟨mb, 0, none⟩), x.val] w (Gave B w mb s td lk M kv (stE er)) := by
  have hb0 : Below w.heap.size w (w.alloc (io x.op x.a x.b x.c x.n x.k x.i x.t)) := below1 w _
  have H := hid (reck_no x 95 (enters_of Tryz.func95 (by kernel_rfl) rfl) rk ri rt er hie (h.below hb0) a0 a1 b0 b1 c0 c1 (fun W hW => hD W (below_on hb0 hW)))
  have HB := hid hb0
  clear h hb0 hD a0 a1 b0 b1 c0 c1
  obtain ⟨op, a, b, c, n', vk, vi, vt⟩ := x
  unfold Ins.val at H ⊢
  go_enter Tryz.func68, Tryz.ntmps68
  go_wp2_with (
    go_at_call 94
    refine H.out.mono ?_
    rintro e w1 ⟨rfl, hx1, hb1⟩
    have H1 := hid (And.intro hx1 hb1)
    clear hx1 hb1)
  exact ⟨rfl, rfl, H1.out.1, (bsx HB.out).trans H1.out.2 (fun _ _ e => e)⟩
theorem op89_any (x : Ins) (R : Vd × Int) (hR : R.2 = 0 ∨ isErr R.2) (h : MX w B mb s td lk M kv) (a0 : 0 ≤ x.a) (a1 : x.a < 16) (b0 : 0 ≤ x.b) (b1 : x.b < 16) (c0 : 0 ≤ x.c) (c1 : x.c < 16)
    (hD : ∀ W, Below w.heap.size w W → Calls Tryz.prog 95 #[(s.rg x.b).val, (s.rg x.c).val] W fun e w' => e = .returned (.tuple #[R.1.val, .int .i64 R.2]) ∧ Below W.heap.size W w') :
    Calls Tryz.prog 68 #[.pointer (some ⟨mb, 0, none⟩), x.val] w (Rck B w mb s td lk M kv x.a R) := by
  obtain ⟨⟨rk, ri, rt⟩, er⟩ := R
  unfold Rck
  dsimp only at hR hD ⊢
  by_cases e : er = 0
  · subst e
    rw [if_pos rfl]
    exact op89_ok x rk ri rt h a0 a1 b0 b1 c0 c1 hD
  · rw [if_neg e]
    exact op89_no x rk ri rt er (hR.resolve_left e) h a0 a1 b0 b1 c0 c1 hD
set_option maxHeartbeats 1600000 in
theorem op90_ok (x : Ins) (rk ri : Int) (rt : ByteArray) (h : MX w B mb s td lk M kv) (a0 : 0 ≤ x.a) (a1 : x.a < 16) (b0 : 0 ≤ x.b) (b1 : x.b < 16) (c0 : 0 ≤ x.c) (c1 : x.c < 16)
    (hD : ∀ W, Below w.heap.size w W → Calls Tryz.prog 96 #[(s.rg x.b).val, (s.rg x.c).val] W fun e w' => e = .returned (.tuple #[vl rk ri rt, .int .i64 0]) ∧ Below W.heap.size W w') :
    Calls Tryz.prog 69 #[.pointer (some ⟨mb, 0, none⟩), x.val] w (Did B w mb s (s.set x.a ⟨rk, ri, rt⟩) td lk M kv) := by
  have hb0 : Below w.heap.size w (w.alloc (io x.op x.a x.b x.c x.n x.k x.i x.t)) := below1 w _
  have H := hid (reck_ok x 96 (enters_of Tryz.func96 (by kernel_rfl) rfl) rk ri rt (h.below hb0) a0 a1 b0 b1 c0 c1 (fun W hW => hD W (below_on hb0 hW)))
  have HB := hid hb0
  clear h hb0 hD a0 a1 b0 b1 c0 c1
  obtain ⟨op, a, b, c, n', vk, vi, vt⟩ := x
  unfold Ins.val at H ⊢
  go_enter Tryz.func69, Tryz.ntmps69
  go_wp2_with (
    go_at_call 94
    refine H.out.mono ?_
    rintro e w1 ⟨rfl, hx1, hb1⟩
    have H1 := hid (And.intro hx1 hb1)
    clear hx1 hb1)
  go_end0
  exact ⟨rfl, H1.out.1, (bsx HB.out).trans H1.out.2 (fun _ _ e => e)⟩
set_option maxHeartbeats 1600000 in
theorem op90_no (x : Ins) (rk ri : Int) (rt : ByteArray) (er : Int) (hie : isErr er) (h : MX w B mb s td lk M kv) (a0 : 0 ≤ x.a) (a1 : x.a < 16) (b0 : 0 ≤ x.b) (b1 : x.b < 16) (c0 : 0 ≤ x.c) (c1 : x.c < 16)
    (hD : ∀ W, Below w.heap.size w W → Calls Tryz.prog 96 #[(s.rg x.b).val, (s.rg x.c).val] W fun e w' => e = .returned (.tuple #[vl rk ri rt, .int .i64 er]) ∧ Below W.heap.size W w') :
    Calls Tryz.prog 69 #[.pointer (some ⟨mb, 0, none⟩), x.val] w (Gave B w mb s td lk M kv (stE er)) := by
  have hb0 : Below w.heap.size w (w.alloc (io x.op x.a x.b x.c x.n x.k x.i x.t)) := below1 w _
  have H := hid (reck_no x 96 (enters_of Tryz.func96 (by kernel_rfl) rfl) rk ri rt er hie (h.below hb0) a0 a1 b0 b1 c0 c1 (fun W hW => hD W (below_on hb0 hW)))
  have HB := hid hb0
  clear h hb0 hD a0 a1 b0 b1 c0 c1
  obtain ⟨op, a, b, c, n', vk, vi, vt⟩ := x
  unfold Ins.val at H ⊢
  go_enter Tryz.func69, Tryz.ntmps69
  go_wp2_with (
    go_at_call 94
    refine H.out.mono ?_
    rintro e w1 ⟨rfl, hx1, hb1⟩
    have H1 := hid (And.intro hx1 hb1)
    clear hx1 hb1)
  exact ⟨rfl, rfl, H1.out.1, (bsx HB.out).trans H1.out.2 (fun _ _ e => e)⟩
theorem op90_any (x : Ins) (R : Vd × Int) (hR : R.2 = 0 ∨ isErr R.2) (h : MX w B mb s td lk M kv) (a0 : 0 ≤ x.a) (a1 : x.a < 16) (b0 : 0 ≤ x.b) (b1 : x.b < 16) (c0 : 0 ≤ x.c) (c1 : x.c < 16)
    (hD : ∀ W, Below w.heap.size w W → Calls Tryz.prog 96 #[(s.rg x.b).val, (s.rg x.c).val] W fun e w' => e = .returned (.tuple #[R.1.val, .int .i64 R.2]) ∧ Below W.heap.size W w') :
    Calls Tryz.prog 69 #[.pointer (some ⟨mb, 0, none⟩), x.val] w (Rck B w mb s td lk M kv x.a R) := by
  obtain ⟨⟨rk, ri, rt⟩, er⟩ := R
  unfold Rck
  dsimp only at hR hD ⊢
  by_cases e : er = 0
  · subst e
    rw [if_pos rfl]
    exact op90_ok x rk ri rt h a0 a1 b0 b1 c0 c1 hD
  · rw [if_neg e]
    exact op90_no x rk ri rt er (hR.resolve_left e) h a0 a1 b0 b1 c0 c1 hD
set_option maxHeartbeats 1600000 in
theorem op91_ok (x : Ins) (rk ri : Int) (rt : ByteArray) (h : MX w B mb s td lk M kv) (a0 : 0 ≤ x.a) (a1 : x.a < 16) (b0 : 0 ≤ x.b) (b1 : x.b < 16) (c0 : 0 ≤ x.c) (c1 : x.c < 16)
    (hD : ∀ W, Below w.heap.size w W → Calls Tryz.prog 97 #[(s.rg x.b).val, (s.rg x.c).val] W fun e w' => e = .returned (.tuple #[vl rk ri rt, .int .i64 0]) ∧ Below W.heap.size W w') :
    Calls Tryz.prog 70 #[.pointer (some ⟨mb, 0, none⟩), x.val] w (Did B w mb s (s.set x.a ⟨rk, ri, rt⟩) td lk M kv) := by
  have hb0 : Below w.heap.size w (w.alloc (io x.op x.a x.b x.c x.n x.k x.i x.t)) := below1 w _
  have H := hid (reck_ok x 97 (enters_of Tryz.func97 (by kernel_rfl) rfl) rk ri rt (h.below hb0) a0 a1 b0 b1 c0 c1 (fun W hW => hD W (below_on hb0 hW)))
  have HB := hid hb0
  clear h hb0 hD a0 a1 b0 b1 c0 c1
  obtain ⟨op, a, b, c, n', vk, vi, vt⟩ := x
  unfold Ins.val at H ⊢
  go_enter Tryz.func70, Tryz.ntmps70
  go_wp2_with (
    go_at_call 94
    refine H.out.mono ?_
    rintro e w1 ⟨rfl, hx1, hb1⟩
    have H1 := hid (And.intro hx1 hb1)
    clear hx1 hb1)
  go_end0
  exact ⟨rfl, H1.out.1, (bsx HB.out).trans H1.out.2 (fun _ _ e => e)⟩
set_option maxHeartbeats 1600000 in
theorem op91_no (x : Ins) (rk ri : Int) (rt : ByteArray) (er : Int) (hie : isErr er) (h : MX w B mb s td lk M kv) (a0 : 0 ≤ x.a) (a1 : x.a < 16) (b0 : 0 ≤ x.b) (b1 : x.b < 16) (c0 : 0 ≤ x.c) (c1 : x.c < 16)
    (hD : ∀ W, Below w.heap.size w W → Calls Tryz.prog 97 #[(s.rg x.b).val, (s.rg x.c).val] W fun e w' => e = .returned (.tuple #[vl rk ri rt, .int .i64 er]) ∧ Below W.heap.size W w') :
    Calls Tryz.prog 70 #[.pointer (some ⟨mb, 0, none⟩), x.val] w (Gave B w mb s td lk M kv (stE er)) := by
  have hb0 : Below w.heap.size w (w.alloc (io x.op x.a x.b x.c x.n x.k x.i x.t)) := below1 w _
  have H := hid (reck_no x 97 (enters_of Tryz.func97 (by kernel_rfl) rfl) rk ri rt er hie (h.below hb0) a0 a1 b0 b1 c0 c1 (fun W hW => hD W (below_on hb0 hW)))
  have HB := hid hb0
  clear h hb0 hD a0 a1 b0 b1 c0 c1
  obtain ⟨op, a, b, c, n', vk, vi, vt⟩ := x
  unfold Ins.val at H ⊢
  go_enter Tryz.func70, Tryz.ntmps70
  go_wp2_with (
    go_at_call 94
    refine H.out.mono ?_
    rintro e w1 ⟨rfl, hx1, hb1⟩
    have H1 := hid (And.intro hx1 hb1)
    clear hx1 hb1)
  exact ⟨rfl, rfl, H1.out.1, (bsx HB.out).trans H1.out.2 (fun _ _ e => e)⟩
theorem op91_any (x : Ins) (R : Vd × Int) (hR : R.2 = 0 ∨ isErr R.2) (h : MX w B mb s td lk M kv) (a0 : 0 ≤ x.a) (a1 : x.a < 16) (b0 : 0 ≤ x.b) (b1 : x.b < 16) (c0 : 0 ≤ x.c) (c1 : x.c < 16)
    (hD : ∀ W, Below w.heap.size w W → Calls Tryz.prog 97 #[(s.rg x.b).val, (s.rg x.c).val] W fun e w' => e = .returned (.tuple #[R.1.val, .int .i64 R.2]) ∧ Below W.heap.size W w') :
    Calls Tryz.prog 70 #[.pointer (some ⟨mb, 0, none⟩), x.val] w (Rck B w mb s td lk M kv x.a R) := by
  obtain ⟨⟨rk, ri, rt⟩, er⟩ := R
  unfold Rck
  dsimp only at hR hD ⊢
  by_cases e : er = 0
  · subst e
    rw [if_pos rfl]
    exact op91_ok x rk ri rt h a0 a1 b0 b1 c0 c1 hD
  · rw [if_neg e]
    exact op91_no x rk ri rt er (hR.resolve_left e) h a0 a1 b0 b1 c0 c1 hD
set_option maxHeartbeats 1600000 in
theorem op92_ok (x : Ins) (rk ri : Int) (rt : ByteArray) (h : MX w B mb s td lk M kv) (a0 : 0 ≤ x.a) (a1 : x.a < 16) (b0 : 0 ≤ x.b) (b1 : x.b < 16) (c0 : 0 ≤ x.c) (c1 : x.c < 16)
    (hD : ∀ W, Below w.heap.size w W → Calls Tryz.prog 98 #[(s.rg x.b).val, (s.rg x.c).val] W fun e w' => e = .returned (.tuple #[vl rk ri rt, .int .i64 0]) ∧ Below W.heap.size W w') :
    Calls Tryz.prog 71 #[.pointer (some ⟨mb, 0, none⟩), x.val] w (Did B w mb s (s.set x.a ⟨rk, ri, rt⟩) td lk M kv) := by
  have hb0 : Below w.heap.size w (w.alloc (io x.op x.a x.b x.c x.n x.k x.i x.t)) := below1 w _
  have H := hid (reck_ok x 98 (enters_of Tryz.func98 (by kernel_rfl) rfl) rk ri rt (h.below hb0) a0 a1 b0 b1 c0 c1 (fun W hW => hD W (below_on hb0 hW)))
  have HB := hid hb0
  clear h hb0 hD a0 a1 b0 b1 c0 c1
  obtain ⟨op, a, b, c, n', vk, vi, vt⟩ := x
  unfold Ins.val at H ⊢
  go_enter Tryz.func71, Tryz.ntmps71
  go_wp2_with (
    go_at_call 94
    refine H.out.mono ?_
    rintro e w1 ⟨rfl, hx1, hb1⟩
    have H1 := hid (And.intro hx1 hb1)
    clear hx1 hb1)
  go_end0
  exact ⟨rfl, H1.out.1, (bsx HB.out).trans H1.out.2 (fun _ _ e => e)⟩
set_option maxHeartbeats 1600000 in
theorem op92_no (x : Ins) (rk ri : Int) (rt : ByteArray) (er : Int) (hie : isErr er) (h : MX w B mb s td lk M kv) (a0 : 0 ≤ x.a) (a1 : x.a < 16) (b0 : 0 ≤ x.b) (b1 : x.b < 16) (c0 : 0 ≤ x.c) (c1 : x.c < 16)
    (hD : ∀ W, Below w.heap.size w W → Calls Tryz.prog 98 #[(s.rg x.b).val, (s.rg x.c).val] W fun e w' => e = .returned (.tuple #[vl rk ri rt, .int .i64 er]) ∧ Below W.heap.size W w') :
    Calls Tryz.prog 71 #[.pointer (some ⟨mb, 0, none⟩), x.val] w (Gave B w mb s td lk M kv (stE er)) := by
  have hb0 : Below w.heap.size w (w.alloc (io x.op x.a x.b x.c x.n x.k x.i x.t)) := below1 w _
  have H := hid (reck_no x 98 (enters_of Tryz.func98 (by kernel_rfl) rfl) rk ri rt er hie (h.below hb0) a0 a1 b0 b1 c0 c1 (fun W hW => hD W (below_on hb0 hW)))
  have HB := hid hb0
  clear h hb0 hD a0 a1 b0 b1 c0 c1
  obtain ⟨op, a, b, c, n', vk, vi, vt⟩ := x
  unfold Ins.val at H ⊢
  go_enter Tryz.func71, Tryz.ntmps71
  go_wp2_with (
    go_at_call 94
    refine H.out.mono ?_
    rintro e w1 ⟨rfl, hx1, hb1⟩
    have H1 := hid (And.intro hx1 hb1)
    clear hx1 hb1)
  exact ⟨rfl, rfl, H1.out.1, (bsx HB.out).trans H1.out.2 (fun _ _ e => e)⟩
theorem op92_any (x : Ins) (R : Vd × Int) (hR : R.2 = 0 ∨ isErr R.2) (h : MX w B mb s td lk M kv) (a0 : 0 ≤ x.a) (a1 : x.a < 16) (b0 : 0 ≤ x.b) (b1 : x.b < 16) (c0 : 0 ≤ x.c) (c1 : x.c < 16)
    (hD : ∀ W, Below w.heap.size w W → Calls Tryz.prog 98 #[(s.rg x.b).val, (s.rg x.c).val] W fun e w' => e = .returned (.tuple #[R.1.val, .int .i64 R.2]) ∧ Below W.heap.size W w') :
    Calls Tryz.prog 71 #[.pointer (some ⟨mb, 0, none⟩), x.val] w (Rck B w mb s td lk M kv x.a R) := by
  obtain ⟨⟨rk, ri, rt⟩, er⟩ := R
  unfold Rck
  dsimp only at hR hD ⊢
  by_cases e : er = 0
  · subst e
    rw [if_pos rfl]
    exact op92_ok x rk ri rt h a0 a1 b0 b1 c0 c1 hD
  · rw [if_neg e]
    exact op92_no x rk ri rt er (hR.resolve_left e) h a0 a1 b0 b1 c0 c1 hD
theorem add_rck (x : Ins) (h : MX w B mb s td lk M kv) (a0 : 0 ≤ x.a) (a1 : x.a < 16) (b0 : 0 ≤ x.b) (b1 : x.b < 16) (c0 : 0 ≤ x.c) (c1 : x.c < 16) (hi : inR (s.rg x.b).i = true) (hj : inR (s.rg x.c).i = true) :
    Calls Tryz.prog 68 #[.pointer (some ⟨mb, 0, none⟩), x.val] w (Rck B w mb s td lk M kv x.a (rckP (isI (s.rg x.b).k (s.rg x.b).t) (isI (s.rg x.c).k (s.rg x.c).t) ((s.rg x.b).i + (s.rg x.c).i))) := by
  refine op89_any x _ (rckP_er _ _ _) h a0 a1 b0 b1 c0 c1 (fun W hb => ?_)
  rw [← rckT_P]
  exact add_any _ _ _ _ _ _ hi hj W
theorem sub_rck (x : Ins) (h : MX w B mb s td lk M kv) (a0 : 0 ≤ x.a) (a1 : x.a < 16) (b0 : 0 ≤ x.b) (b1 : x.b < 16) (c0 : 0 ≤ x.c) (c1 : x.c < 16) (hi : inR (s.rg x.b).i = true) (hj : inR (s.rg x.c).i = true) :
    Calls Tryz.prog 69 #[.pointer (some ⟨mb, 0, none⟩), x.val] w (Rck B w mb s td lk M kv x.a (rckP (isI (s.rg x.b).k (s.rg x.b).t) (isI (s.rg x.c).k (s.rg x.c).t) ((s.rg x.b).i - (s.rg x.c).i))) := by
  refine op90_any x _ (rckP_er _ _ _) h a0 a1 b0 b1 c0 c1 (fun W hb => ?_)
  rw [← rckT_P]
  exact sub_any _ _ _ _ _ _ hi hj W
theorem mul_rck (x : Ins) (h : MX w B mb s td lk M kv) (a0 : 0 ≤ x.a) (a1 : x.a < 16) (b0 : 0 ≤ x.b) (b1 : x.b < 16) (c0 : 0 ≤ x.c) (c1 : x.c < 16) (hi : inR (s.rg x.b).i = true) (hj : inR (s.rg x.c).i = true) :
    Calls Tryz.prog 70 #[.pointer (some ⟨mb, 0, none⟩), x.val] w (Rck B w mb s td lk M kv x.a (rckP (isI (s.rg x.b).k (s.rg x.b).t) (isI (s.rg x.c).k (s.rg x.c).t) ((s.rg x.b).i * (s.rg x.c).i))) := by
  refine op91_any x _ (rckP_er _ _ _) h a0 a1 b0 b1 c0 c1 (fun W hb => ?_)
  rw [← rckT_P]
  exact mul_any _ _ _ _ _ _ hi hj W
theorem join_rck (dig : Int → List Int) (x : Ins) (h : MX w B mb s td lk M kv) (a0 : 0 ≤ x.a) (a1 : x.a < 16) (b0 : 0 ≤ x.b) (b1 : x.b < 16) (c0 : 0 ≤ x.c) (c1 : x.c < 16) (hi : inR (s.rg x.b).i = true) (hj : inR (s.rg x.c).i = true) (hd : Digs dig w) :
    Calls Tryz.prog 71 #[.pointer (some ⟨mb, 0, none⟩), x.val] w (Rck B w mb s td lk M kv x.a (joinP dig (s.rg x.b) (s.rg x.c))) := by
  refine op92_any x _ (joinP_er _ _ _) h a0 a1 b0 b1 c0 c1 (fun W hb => ?_)
  rw [← joinT_P]
  have h1 := of_decide_eq_true hi
  have h2 := of_decide_eq_true hj
  exact join_any dig _ _ _ _ _ _ W (hd.below hb) h1.1 h1.2 h2.1 h2.2
end
end Go.Proofs.YthcoigbkdbkojabGreat
namespace Go.Proofs.YthcoigbkdbkojabGreat
open Go.RowKit Go.MapKept
section
variable {w w' : World} {B mb M : Nat} {s : Ms} {td : List Vd} {lk : List (ByteArray × ByteArray)} {kv : List (ByteArray × Value)}
abbrev opTab : Obj := .cells #[.nilFunc, .func (.func 63) #[] #[], .func (.func 64) #[] #[], .func (.func 65) #[] #[], .func (.func 66) #[] #[], .func (.func 67) #[] #[], .func (.func 68) #[] #[], .func (.func 69) #[] #[], .func (.func 70) #[] #[], .func (.func 71) #[] #[], .func (.func 72) #[] #[], .func (.func 73) #[] #[], .func (.func 74) #[] #[], .func (.func 75) #[] #[], .func (.func 76) #[] #[], .func (.func 77) #[] #[]] 108
theorem optab_any (w : World) : Calls Tryz.prog 42 #[] w fun e w' => e = .returned (.slice (some ⟨w.heap.size, 0, none⟩) 16 16) ∧ w' = w.alloc opTab := by
  go_enter Tryz.func42, Tryz.ntmps42
  go_wp2
  go_ret
  exact ⟨rfl, rfl⟩
end
end Go.Proofs.YthcoigbkdbkojabGreat
