import Derived.Test.YtdnlfacfleemeaaGreatK07
namespace Go.Proofs.YtdnlfacfleemeaaGreat
open Go.RowKit

set_option maxRecDepth 100000 in
set_option maxHeartbeats 800000 in
theorem rtakeNum_any (v : Value) (bs : List Int) (at' : Nat) (e st : Int) (w : World) (h : Sl w v bs) (ho : Oct bs) (hl : bs.length ≤ 1000000000) (ha : at' ≤ bs.length) (hst : e ≠ 0 → st = at') :
    Calls Tryz.prog 30 #[.agg #[v, .int .i64 at', .int .i64 e, .int .i64 st]] w fun x w' => RRPost w v (takeZ 1 0 bs at' e) (.int .i64 (takeZ 1 0 bs at' e).1.1) x w' := by
  have h1 := h
  obtain ⟨ao, c, rfl, hc, hx⟩ := h1
  clear hx
  by_cases he : e = 0
  · subst he
    obtain ⟨u, sz, e1, hr⟩ : ∃ u sz e1, rowGo 9 127 (bs.drop at') 0 0 = (u, sz, e1) := ⟨_, _, _, rfl⟩
    have hok := leadZ_ok 1 (bs.drop at') 0 (fun x hx => ho x (List.mem_of_mem_drop hx))
    have hle : leadZ 1 (bs.drop at') 0 = (u, sz, e1) := by
      rw [← hr]; rfl
    rw [hle] at hok
    dsimp only at hok
    have hdl : (bs.drop at').length = bs.length - at' := by simp
    have HR := hid (fun wx (hb : Below w.heap.size w wx) => rrow_any (.slice ao bs.length c) bs at' 0 st 9 127 wx (h.below hb) ho hl ha (by omega) (by omega) (by omega) (by omega) (by omega))
    have hrz : rrowZ 9 127 bs at' = (u, if e1 = 0 then (at' : Int) + sz else 0, e1) := by unfold rrowZ; rw [hr]
    by_cases he1 : e1 = 0
    · subst he1
      obtain ⟨k1, k2, k3, k4, k5⟩ := hok rfl
      have hz : takeZ 1 0 bs at' 0 = ((u, []), at' + sz.toNat, 0) := by
        unfold takeZ
        rw [if_pos rfl, hle]
        rfl
      rw [hz]
      dsimp only
      rw [if_pos rfl] at hrz
      rw [hrz] at HR
      have HQ2 := hid (new2r w (.cells #[.slice ao bs.length c, .int .i64 at', .int .i64 0, .int .i64 st] 74) (.cells #[.slice none 0 0, .int .i64 0, .int .i64 0, .int .i64 0] 74))
      have hu := k5 (by omega) (by omega)
      clear hz hrz hle hr hok hst k5
      go_enter Tryz.func30, Tryz.ntmps30
      go_wp2_with fail
      refine (HR.out _ (below2r w _ _)).mono ?_
      rintro x w1 ⟨rfl, hb1⟩
      dsimp only [tup3i]
      have hz1 : w.heap.size + 2 ≤ w1.heap.size := by
        have := hb1.size
        simp at this
        omega
      have hq := (hb1.block (w.heap.size + 1) (by simp)).trans (new2r w _ _).1
      have hp := (hb1.block w.heap.size (by simp; omega)).trans (new2r w _ _).2
      obtain ⟨p0, p1, p2, p3⟩ := cell_of_four hp
      have y0 := free_of_block (o := 1) hp
      obtain ⟨q0, q1, q2, q3⟩ := cell_of_four hq
      have z0 := free_of_block (o := 0) hq
      have z1 := free_of_block (o := 1) hq
      have z2 := free_of_block (o := 2) hq
      have z3 := free_of_block (o := 3) hq
      have hbw := (below2r w _ _).trans (hb1.mono (by simp; omega))
      clear hq hp HR HQ2 hb1
      go_wp2
      go_region
      all_goals go_wp2
      all_goals
        refine bodyPost_ret (v := .tuple #[.int .i64 u, .agg #[.slice ao bs.length c, .int .i64 ((at' : Int) + sz), .int .i64 0, .int .i64 st]]) (by simp [results, Tryz.results30, go_sem, q0, q1, q2, q3]) rfl ?_
        refine ⟨st, ?_, fun h => absurd rfl h, ?_⟩
        · have : ((at' + sz.toNat : Nat) : Int) = (at' : Int) + sz := by omega
          rw [this]
        · repeat (first | (with_reducible exact hbw) | (with_reducible refine Below.drew ?_) | (with_reducible refine Below.setCell ?_ (by dsimp only; omega) _) | (with_reducible refine Below.alloc ?_ (by simp; omega) _))
    · have hz : takeZ 1 0 bs at' 0 = ((0, []), at', e1) := by
        unfold takeZ
        rw [if_pos rfl, hle]
        dsimp only
        rw [if_neg he1]
      rw [hz]
      dsimp only
      rw [if_neg he1] at hrz
      rw [hrz] at HR
      have he3 : (e1 != 0) = true := by simpa using he1
      have HN := hid he1
      clear hz hrz hle hr hok hst he1
      go_enter Tryz.func30, Tryz.ntmps30
      go_wp2_with fail
      refine (HR.out _ (below2r w _ _)).mono ?_
      rintro x w1 ⟨rfl, hb1⟩
      dsimp only [tup3i]
      have hz1 : w.heap.size + 2 ≤ w1.heap.size := by
        have := hb1.size
        simp at this
        omega
      have hq := (hb1.block (w.heap.size + 1) (by simp)).trans (new2r w _ _).1
      have hp := (hb1.block w.heap.size (by simp; omega)).trans (new2r w _ _).2
      obtain ⟨p0, p1, p2, p3⟩ := cell_of_four hp
      have HQ := hid hq
      have hbw := (below2r w _ _).trans (hb1.mono (by simp; omega))
      clear hq hp HR
      go_wp2_with fail
      refine (rends_any ao bs.length c at' 0 st e1 _).mono ?_
      rintro x w2 ⟨rfl, hb2⟩
      have hq2 := (hb2.block (w.heap.size + 1) (by omega)).trans HQ.out
      obtain ⟨q0, q1, q2, q3⟩ := cell_of_four hq2
      have z0 := free_of_block (o := 0) hq2
      have z1 := free_of_block (o := 1) hq2
      have z2 := free_of_block (o := 2) hq2
      have z3 := free_of_block (o := 3) hq2
      have HB2 := hid hb2
      clear hq2 hb2
      go_wp2
      refine bodyPost_ret (v := .tuple #[.int .i64 0, .agg #[.slice ao bs.length c, .int .i64 (at' : Int), .int .i64 e1, .int .i64 (at' : Int)]]) (by simp [results, Tryz.results30, go_sem, q0, q1, q2, q3]) rfl ?_
      exact ⟨at', rfl, fun _ => rfl, ((((hbw.trans (HB2.out.mono (by omega))).setCell (by simp) _).setCell (by simp) _).setCell (by simp) _).setCell (by simp) _⟩
  · rw [takeZ_stop 1 0 bs at' e he]
    have he2 : (e != 0) = true := by simpa using he
    have HS := hid (hst he)
    clear hst
    go_enter Tryz.func30, Tryz.ntmps30
    go_wp2
    go_region
    all_goals go_wp2
    all_goals
      refine bodyPost_ret (v := .tuple #[.int .i64 0, .agg #[.slice ao bs.length c, .int .i64 (at' : Int), .int .i64 e, .int .i64 st]]) (by simp [results, Tryz.results30, go_sem]) rfl ?_
      exact ⟨st, rfl, fun _ => HS.out, (((Below.refl _ _).alloc (Nat.le_refl _) _).alloc (by simp) _).drew⟩

end Go.Proofs.YtdnlfacfleemeaaGreat

namespace Go.Proofs.YtdnlfacfleemeaaGreat
open Go.RowKit

set_option maxRecDepth 100000 in
set_option maxHeartbeats 1600000 in
theorem rtext_okp (ao : Option Addr) (c : Nat) (bs L : List Int) (at' a2 uu : Nat) (st n : Int) (w : World) (hl : bs.length ≤ 1000000000) (_ha : at' ≤ bs.length) (hc : bs.length ≤ c) (ha3 : a2 + uu ≤ bs.length) (hn0 : -9223372036854775808 ≤ n) (hn1 : n < 9223372036854775808) (hn : 0 ≤ n) (hx1 : (uu : Int) ≤ n)
    (hsl : Sl w (sliced ao a2 (a2 + uu) c 1) L)
    (HN : Hid (∀ wx : World, Below w.heap.size w wx → Calls Tryz.prog 30 #[.agg #[.slice ao bs.length c, .int .i64 at', .int .i64 0, .int .i64 st]] wx fun x w' => RRPost wx (.slice ao bs.length c) (((uu : Int), []), a2, 0) (.int .i64 uu) x w')) :
    Calls Tryz.prog 61 #[.agg #[.slice ao bs.length c, .int .i64 at', .int .i64 0, .int .i64 st], .int .i64 n] w fun x w' => RRPost w (.slice ao bs.length c) (((uu : Int), L), a2 + uu, 0) (.string (mkStr L)) x w' := by
  have hsh : (uu : Int) ≤ (bs.length : Int) - a2 := by omega
  by_cases hca : c = a2
  · have hS : Sl w (.slice ao uu 0) L := by
      have := hsl
      unfold sliced at this
      rw [if_pos hca] at this
      simpa [hca] using this
    subst hca
    clear hsl
    go_enter Tryz.func61, Tryz.ntmps61
    go_wp2_with fail
    refine (HN.out _ (below2r w _ _)).mono ?_
    rintro x w1 ⟨st2, rfl, hst2, hb1⟩
    dsimp only
    have hz1 : w.heap.size + 2 ≤ w1.heap.size := by
      have := hb1.size
      simp at this
      omega
    have hq := (hb1.block (w.heap.size + 1) (by simp)).trans (new2r w _ _).1
    have hp := (hb1.block w.heap.size (by simp; omega)).trans (new2r w _ _).2
    obtain ⟨p0, p1, p2, p3⟩ := cell_of_four hp
    obtain ⟨q0, q1, q2, q3⟩ := cell_of_four hq
    have z0 := free_of_block (o := 0) hq
    have z1 := free_of_block (o := 1) hq
    have z2 := free_of_block (o := 2) hq
    have z3 := free_of_block (o := 3) hq
    have HQ := hid hq
    have hbw := (below2r w _ _).trans (hb1.mono (by simp; omega))
    have hs0 : w.heap.size < w1.heap.size := by omega
    have hs1 : w.heap.size + 1 < w1.heap.size := by omega
    clear hq hp HN hb1 hst2
    have hst3 := sl_string ((hS.below hbw).below ((Below.refl _ w1).alloc (Nat.le_refl _) (.cells #[.slice ao bs.length c, .int .i64 c, .int .i64 0, .int .i64 st2] 74)))
    clear hS
    go_wp2
    go_region
    all_goals go_wp2
    all_goals
      refine bodyPost_ret (v := .tuple #[.string (mkStr L), .agg #[.slice ao bs.length c, .int .i64 ((c : Int) + uu), .int .i64 0, .int .i64 st2]]) (by simp [results, Tryz.results61, go_sem, q0, q1, q2, q3, World.cell?_alloc_past, hs1]) rfl ?_
      refine ⟨st2, by simp, fun h => absurd rfl h, ?_⟩
      repeat (first | (with_reducible exact hbw) | (with_reducible refine Below.drew ?_) | (with_reducible refine Below.setCell ?_ (by dsimp only; omega) _) | (with_reducible refine Below.alloc ?_ (by simp; omega) _))
  · have hS : Sl w (.slice (Option.map (fun x => x.add a2) ao) uu (c - a2)) L := by
      have := hsl
      unfold sliced at this
      rw [if_neg hca] at this
      simpa using this
    clear hsl
    go_enter Tryz.func61, Tryz.ntmps61
    go_wp2_with fail
    refine (HN.out _ (below2r w _ _)).mono ?_
    rintro x w1 ⟨st2, rfl, hst2, hb1⟩
    dsimp only
    have hz1 : w.heap.size + 2 ≤ w1.heap.size := by
      have := hb1.size
      simp at this
      omega
    have hq := (hb1.block (w.heap.size + 1) (by simp)).trans (new2r w _ _).1
    have hp := (hb1.block w.heap.size (by simp; omega)).trans (new2r w _ _).2
    obtain ⟨p0, p1, p2, p3⟩ := cell_of_four hp
    obtain ⟨q0, q1, q2, q3⟩ := cell_of_four hq
    have z0 := free_of_block (o := 0) hq
    have z1 := free_of_block (o := 1) hq
    have z2 := free_of_block (o := 2) hq
    have z3 := free_of_block (o := 3) hq
    have HQ := hid hq
    have hbw := (below2r w _ _).trans (hb1.mono (by simp; omega))
    have hs0 : w.heap.size < w1.heap.size := by omega
    have hs1 : w.heap.size + 1 < w1.heap.size := by omega
    clear hq hp HN hb1 hst2
    have hst3 := sl_string ((hS.below hbw).below ((Below.refl _ w1).alloc (Nat.le_refl _) (.cells #[.slice ao bs.length c, .int .i64 a2, .int .i64 0, .int .i64 st2] 74)))
    clear hS
    go_wp2
    go_region
    all_goals go_wp2
    all_goals
      refine bodyPost_ret (v := .tuple #[.string (mkStr L), .agg #[.slice ao bs.length c, .int .i64 ((a2 : Int) + uu), .int .i64 0, .int .i64 st2]]) (by simp [results, Tryz.results61, go_sem, q0, q1, q2, q3, World.cell?_alloc_past, hs1]) rfl ?_
      refine ⟨st2, by simp, fun h => absurd rfl h, ?_⟩
      repeat (first | (with_reducible exact hbw) | (with_reducible refine Below.drew ?_) | (with_reducible refine Below.setCell ?_ (by dsimp only; omega) _) | (with_reducible refine Below.alloc ?_ (by simp; omega) _))

set_option maxRecDepth 100000 in
set_option maxHeartbeats 1600000 in
theorem rtext_okn (ao : Option Addr) (c : Nat) (bs L : List Int) (at' a2 uu : Nat) (st n : Int) (w : World) (hl : bs.length ≤ 1000000000) (_ha : at' ≤ bs.length) (hc : bs.length ≤ c) (ha3 : a2 + uu ≤ bs.length) (_hn0 : -9223372036854775808 ≤ n) (_hn1 : n < 9223372036854775808) (hn : n < 0) (hx1 : (uu : Int) ≤ 0)
    (hsl : Sl w (sliced ao a2 (a2 + uu) c 1) L)
    (HN : Hid (∀ wx : World, Below w.heap.size w wx → Calls Tryz.prog 30 #[.agg #[.slice ao bs.length c, .int .i64 at', .int .i64 0, .int .i64 st]] wx fun x w' => RRPost wx (.slice ao bs.length c) (((uu : Int), []), a2, 0) (.int .i64 uu) x w')) :
    Calls Tryz.prog 61 #[.agg #[.slice ao bs.length c, .int .i64 at', .int .i64 0, .int .i64 st], .int .i64 n] w fun x w' => RRPost w (.slice ao bs.length c) (((uu : Int), L), a2 + uu, 0) (.string (mkStr L)) x w' := by
  have hsh : (uu : Int) ≤ (bs.length : Int) - a2 := by omega
  by_cases hca : c = a2
  · have hS : Sl w (.slice ao uu 0) L := by
      have := hsl
      unfold sliced at this
      rw [if_pos hca] at this
      simpa [hca] using this
    subst hca
    clear hsl
    go_enter Tryz.func61, Tryz.ntmps61
    go_wp2_with fail
    refine (HN.out _ (below2r w _ _)).mono ?_
    rintro x w1 ⟨st2, rfl, hst2, hb1⟩
    dsimp only
    have hz1 : w.heap.size + 2 ≤ w1.heap.size := by
      have := hb1.size
      simp at this
      omega
    have hq := (hb1.block (w.heap.size + 1) (by simp)).trans (new2r w _ _).1
    have hp := (hb1.block w.heap.size (by simp; omega)).trans (new2r w _ _).2
    obtain ⟨p0, p1, p2, p3⟩ := cell_of_four hp
    obtain ⟨q0, q1, q2, q3⟩ := cell_of_four hq
    have z0 := free_of_block (o := 0) hq
    have z1 := free_of_block (o := 1) hq
    have z2 := free_of_block (o := 2) hq
    have z3 := free_of_block (o := 3) hq
    have HQ := hid hq
    have hbw := (below2r w _ _).trans (hb1.mono (by simp; omega))
    have hs0 : w.heap.size < w1.heap.size := by omega
    have hs1 : w.heap.size + 1 < w1.heap.size := by omega
    clear hq hp HN hb1 hst2
    have hst3 := sl_string ((hS.below hbw).below ((Below.refl _ w1).alloc (Nat.le_refl _) (.cells #[.slice ao bs.length c, .int .i64 c, .int .i64 0, .int .i64 st2] 74)))
    clear hS
    go_wp2
    go_region
    all_goals go_wp2
    all_goals
      refine bodyPost_ret (v := .tuple #[.string (mkStr L), .agg #[.slice ao bs.length c, .int .i64 ((c : Int) + uu), .int .i64 0, .int .i64 st2]]) (by simp [results, Tryz.results61, go_sem, q0, q1, q2, q3, World.cell?_alloc_past, hs1]) rfl ?_
      refine ⟨st2, by simp, fun h => absurd rfl h, ?_⟩
      repeat (first | (with_reducible exact hbw) | (with_reducible refine Below.drew ?_) | (with_reducible refine Below.setCell ?_ (by dsimp only; omega) _) | (with_reducible refine Below.alloc ?_ (by simp; omega) _))
  · have hS : Sl w (.slice (Option.map (fun x => x.add a2) ao) uu (c - a2)) L := by
      have := hsl
      unfold sliced at this
      rw [if_neg hca] at this
      simpa using this
    clear hsl
    go_enter Tryz.func61, Tryz.ntmps61
    go_wp2_with fail
    refine (HN.out _ (below2r w _ _)).mono ?_
    rintro x w1 ⟨st2, rfl, hst2, hb1⟩
    dsimp only
    have hz1 : w.heap.size + 2 ≤ w1.heap.size := by
      have := hb1.size
      simp at this
      omega
    have hq := (hb1.block (w.heap.size + 1) (by simp)).trans (new2r w _ _).1
    have hp := (hb1.block w.heap.size (by simp; omega)).trans (new2r w _ _).2
    obtain ⟨p0, p1, p2, p3⟩ := cell_of_four hp
    obtain ⟨q0, q1, q2, q3⟩ := cell_of_four hq
    have z0 := free_of_block (o := 0) hq
    have z1 := free_of_block (o := 1) hq
    have z2 := free_of_block (o := 2) hq
    have z3 := free_of_block (o := 3) hq
    have HQ := hid hq
    have hbw := (below2r w _ _).trans (hb1.mono (by simp; omega))
    have hs0 : w.heap.size < w1.heap.size := by omega
    have hs1 : w.heap.size + 1 < w1.heap.size := by omega
    clear hq hp HN hb1 hst2
    have hst3 := sl_string ((hS.below hbw).below ((Below.refl _ w1).alloc (Nat.le_refl _) (.cells #[.slice ao bs.length c, .int .i64 a2, .int .i64 0, .int .i64 st2] 74)))
    clear hS
    go_wp2
    go_region
    all_goals go_wp2
    all_goals
      refine bodyPost_ret (v := .tuple #[.string (mkStr L), .agg #[.slice ao bs.length c, .int .i64 ((a2 : Int) + uu), .int .i64 0, .int .i64 st2]]) (by simp [results, Tryz.results61, go_sem, q0, q1, q2, q3, World.cell?_alloc_past, hs1]) rfl ?_
      refine ⟨st2, by simp, fun h => absurd rfl h, ?_⟩
      repeat (first | (with_reducible exact hbw) | (with_reducible refine Below.drew ?_) | (with_reducible refine Below.setCell ?_ (by dsimp only; omega) _) | (with_reducible refine Below.alloc ?_ (by simp; omega) _))

end Go.Proofs.YtdnlfacfleemeaaGreat

namespace Go.Proofs.YtdnlfacfleemeaaGreat
open Go.RowKit

set_option maxRecDepth 100000 in
set_option maxHeartbeats 800000 in
theorem rtakeText_any (v : Value) (bs : List Int) (at' : Nat) (e st n : Int) (w : World) (h : Sl w v bs) (ho : Oct bs) (hl : bs.length ≤ 1000000000) (ha : at' ≤ bs.length) (hst : e ≠ 0 → st = at') (hn0 : -9223372036854775808 ≤ n) (hn1 : n < 9223372036854775808) :
    Calls Tryz.prog 61 #[.agg #[v, .int .i64 at', .int .i64 e, .int .i64 st], .int .i64 n] w fun x w' => RRPost w v (takeZ 3 n bs at' e) (.string (mkStr (takeZ 3 n bs at' e).1.2)) x w' := by
  have h1 := h
  obtain ⟨ao, c, rfl, hc, hx⟩ := h1
  have HX := hid hx
  clear hx
  by_cases he : e = 0
  · subst he
    obtain ⟨u, sz, e1, hr⟩ : ∃ u sz e1, rowGo 9 127 (bs.drop at') 0 0 = (u, sz, e1) := ⟨_, _, _, rfl⟩
    have hok := leadZ_ok 3 (bs.drop at') n (fun x hx => ho x (List.mem_of_mem_drop hx))
    have hle : leadZ 3 (bs.drop at') n = (u, sz, e1) := by rw [← hr]; rfl
    have hle1 : leadZ 1 (bs.drop at') 0 = (u, sz, e1) := by rw [← hr]; rfl
    rw [hle] at hok
    dsimp only at hok
    have hdl : (bs.drop at').length = bs.length - at' := by simp
    have HN := hid (fun wx (hb : Below w.heap.size w wx) => rtakeNum_any (.slice ao bs.length c) bs at' 0 st wx (h.below hb) ho hl ha (fun h => absurd rfl h))
    by_cases he1 : e1 = 0
    · subst he1
      obtain ⟨k1, k2, k3, k4, k5⟩ := hok rfl
      have hu := k5 (by omega) (by omega)
      have hz1 : takeZ 1 0 bs at' 0 = ((u, []), at' + sz.toNat, 0) := by
        unfold takeZ
        rw [if_pos rfl, hle1]
        rfl
      rw [hz1] at HN
      obtain ⟨a2, ha2⟩ : ∃ a2, a2 = at' + sz.toNat := ⟨_, rfl⟩
      rw [← ha2] at HN
      have ha3 : a2 ≤ bs.length := by omega
      have ha4 : (a2 : Int) = (at' : Int) + sz := by omega
      have HA := hid ha2
      have HA4 := hid ha4
      by_cases hlong : max n 0 < u
      · have hz : takeZ 3 n bs at' 0 = ((0, []), at', 4) := by
          unfold takeZ
          rw [if_pos rfl, hle]
          dsimp only
          rw [if_pos rfl, if_pos rfl, if_pos hlong]
        rw [hz]
        clear hz hz1 hle hle1 hr hok k5 ha2 ha4 hst
        by_cases hn : 0 ≤ n
        · have hx1 : n < u := by omega
          clear hlong
          go_enter Tryz.func61, Tryz.ntmps61
          go_wp2_with fail
          refine (HN.out _ (below2r w _ _)).mono ?_
          rintro x w1 ⟨st2, rfl, hst2, hb1⟩
          dsimp only
          have hz1 : w.heap.size + 2 ≤ w1.heap.size := by
            have := hb1.size
            simp at this
            omega
          have hq := (hb1.block (w.heap.size + 1) (by simp)).trans (new2r w _ _).1
          have hp := (hb1.block w.heap.size (by simp; omega)).trans (new2r w _ _).2
          obtain ⟨p0, p1, p2, p3⟩ := cell_of_four hp
          obtain ⟨q0, q1, q2, q3⟩ := cell_of_four hq
          have z0 := free_of_block (o := 0) hq
          have z1 := free_of_block (o := 1) hq
          have z2 := free_of_block (o := 2) hq
          have z3 := free_of_block (o := 3) hq
          have HQ := hid hq
          have hbw := (below2r w _ _).trans (hb1.mono (by simp; omega))
          have hs0 : w.heap.size < w1.heap.size := by omega
          have hs1 : w.heap.size + 1 < w1.heap.size := by omega
          clear hq hp HN hb1
          go_wp2_with fail
          refine (rends_any ao bs.length c at' 0 st 4 _).mono ?_
          rintro x w2 ⟨rfl, hb2⟩
          have hq2 := (hb2.block (w.heap.size + 1) (by simp; omega)).trans ((Below.heap_alloc _ _ _ hs1).trans HQ.out)
          obtain ⟨r0, r1, r2, r3⟩ := cell_of_four hq2
          have y0 := free_of_block (o := 0) hq2
          have y1 := free_of_block (o := 1) hq2
          have y2 := free_of_block (o := 2) hq2
          have y3 := free_of_block (o := 3) hq2
          have HB2 := hid ((hbw.alloc (by omega) _).trans (hb2.mono (by simp; omega)))
          clear hq2 hb2
          go_wp2
          refine bodyPost_ret (v := .tuple #[.string ⟨#[]⟩, .agg #[.slice ao bs.length c, .int .i64 (at' : Int), .int .i64 4, .int .i64 (at' : Int)]]) (by simp [results, Tryz.results61, go_sem, r0, r1, r2, r3]) rfl ?_
          exact ⟨at', rfl, fun _ => rfl, (((HB2.out.setCell (by simp) _).setCell (by simp) _).setCell (by simp) _).setCell (by simp) _⟩
        · have hx1 : n < 0 := by omega
          have hx2 : 0 < u := by omega
          clear hlong hn
          go_enter Tryz.func61, Tryz.ntmps61
          go_wp2_with fail
          refine (HN.out _ (below2r w _ _)).mono ?_
          rintro x w1 ⟨st2, rfl, hst2, hb1⟩
          dsimp only
          have hz1 : w.heap.size + 2 ≤ w1.heap.size := by
            have := hb1.size
            simp at this
            omega
          have hq := (hb1.block (w.heap.size + 1) (by simp)).trans (new2r w _ _).1
          have hp := (hb1.block w.heap.size (by simp; omega)).trans (new2r w _ _).2
          obtain ⟨p0, p1, p2, p3⟩ := cell_of_four hp
          obtain ⟨q0, q1, q2, q3⟩ := cell_of_four hq
          have z0 := free_of_block (o := 0) hq
          have z1 := free_of_block (o := 1) hq
          have z2 := free_of_block (o := 2) hq
          have z3 := free_of_block (o := 3) hq
          have HQ := hid hq
          have hbw := (below2r w _ _).trans (hb1.mono (by simp; omega))
          have hs0 : w.heap.size < w1.heap.size := by omega
          have hs1 : w.heap.size + 1 < w1.heap.size := by omega
          clear hq hp HN hb1
          go_wp2_with fail
          refine (rends_any ao bs.length c at' 0 st 4 _).mono ?_
          rintro x w2 ⟨rfl, hb2⟩
          have hq2 := (hb2.block (w.heap.size + 1) (by simp; omega)).trans ((Below.heap_alloc _ _ _ hs1).trans HQ.out)
          obtain ⟨r0, r1, r2, r3⟩ := cell_of_four hq2
          have y0 := free_of_block (o := 0) hq2
          have y1 := free_of_block (o := 1) hq2
          have y2 := free_of_block (o := 2) hq2
          have y3 := free_of_block (o := 3) hq2
          have HB2 := hid ((hbw.alloc (by omega) _).trans (hb2.mono (by simp; omega)))
          clear hq2 hb2
          go_wp2
          refine bodyPost_ret (v := .tuple #[.string ⟨#[]⟩, .agg #[.slice ao bs.length c, .int .i64 (at' : Int), .int .i64 4, .int .i64 (at' : Int)]]) (by simp [results, Tryz.results61, go_sem, r0, r1, r2, r3]) rfl ?_
          exact ⟨at', rfl, fun _ => rfl, (((HB2.out.setCell (by simp) _).setCell (by simp) _).setCell (by simp) _).setCell (by simp) _⟩
      · by_cases hsh : (bs.length : Int) - a2 < u
        · have hz : takeZ 3 n bs at' 0 = ((0, []), at', 2) := by
            unfold takeZ
            rw [if_pos rfl, hle]
            dsimp only
            rw [if_pos rfl, if_pos rfl, if_neg hlong, if_pos (by omega)]
          rw [hz]
          clear hz hz1 hle hle1 hr hok k5 ha2 ha4 hst
          have hn : 0 ≤ n := by omega
          have hx1 : u ≤ n := by omega
          clear hlong
          go_enter Tryz.func61, Tryz.ntmps61
          go_wp2_with fail
          refine (HN.out _ (below2r w _ _)).mono ?_
          rintro x w1 ⟨st2, rfl, hst2, hb1⟩
          dsimp only
          have hz1 : w.heap.size + 2 ≤ w1.heap.size := by
            have := hb1.size
            simp at this
            omega
          have hq := (hb1.block (w.heap.size + 1) (by simp)).trans (new2r w _ _).1
          have hp := (hb1.block w.heap.size (by simp; omega)).trans (new2r w _ _).2
          obtain ⟨p0, p1, p2, p3⟩ := cell_of_four hp
          obtain ⟨q0, q1, q2, q3⟩ := cell_of_four hq
          have z0 := free_of_block (o := 0) hq
          have z1 := free_of_block (o := 1) hq
          have z2 := free_of_block (o := 2) hq
          have z3 := free_of_block (o := 3) hq
          have HQ := hid hq
          have hbw := (below2r w _ _).trans (hb1.mono (by simp; omega))
          have hs0 : w.heap.size < w1.heap.size := by omega
          have hs1 : w.heap.size + 1 < w1.heap.size := by omega
          clear hq hp HN hb1
          go_wp2_with fail
          refine (rends_any ao bs.length c at' 0 st 2 _).mono ?_
          rintro x w2 ⟨rfl, hb2⟩
          have hq2 := (hb2.block (w.heap.size + 1) (by simp; omega)).trans ((Below.heap_alloc _ _ _ hs1).trans HQ.out)
          obtain ⟨r0, r1, r2, r3⟩ := cell_of_four hq2
          have y0 := free_of_block (o := 0) hq2
          have y1 := free_of_block (o := 1) hq2
          have y2 := free_of_block (o := 2) hq2
          have y3 := free_of_block (o := 3) hq2
          have HB2 := hid ((hbw.alloc (by omega) _).trans (hb2.mono (by simp; omega)))
          clear hq2 hb2
          go_wp2
          refine bodyPost_ret (v := .tuple #[.string ⟨#[]⟩, .agg #[.slice ao bs.length c, .int .i64 (at' : Int), .int .i64 2, .int .i64 (at' : Int)]]) (by simp [results, Tryz.results61, go_sem, r0, r1, r2, r3]) rfl ?_
          exact ⟨at', rfl, fun _ => rfl, (((HB2.out.setCell (by simp) _).setCell (by simp) _).setCell (by simp) _).setCell (by simp) _⟩
        · obtain ⟨uu, rfl⟩ := Int.eq_ofNat_of_zero_le k3
          have hz : takeZ 3 n bs at' 0 = (((uu : Int), (bs.drop a2).take uu), a2 + uu, 0) := by
            unfold takeZ
            rw [if_pos rfl, hle]
            dsimp only
            rw [if_pos rfl, if_pos rfl, if_neg hlong, if_neg (by omega), ha2, List.drop_drop]
            have e1 : (sz + (uu : Int)).toNat = sz.toNat + uu := by omega
            rw [e1, Nat.add_assoc, Int.toNat_natCast]
          rw [hz]
          have hsl := sl_sliced hc HX.out a2 (a2 + uu) (by omega) (by omega)
          rw [Nat.add_sub_cancel_left] at hsl
          by_cases hn : 0 ≤ n
          · exact rtext_okp ao c bs _ at' a2 uu st n w hl ha hc (by omega) hn0 hn1 hn (by omega) hsl HN
          · exact rtext_okn ao c bs _ at' a2 uu st n w hl ha hc (by omega) hn0 hn1 (by omega) (by omega) hsl HN
    · have hz : takeZ 3 n bs at' 0 = ((0, []), at', e1) := by
        unfold takeZ
        rw [if_pos rfl, hle]
        dsimp only
        rw [if_neg he1]
      have hz1 : takeZ 1 0 bs at' 0 = ((0, []), at', e1) := by
        unfold takeZ
        rw [if_pos rfl, hle1]
        dsimp only
        rw [if_neg he1]
      rw [hz]
      rw [hz1] at HN
      have he3 : (e1 != 0) = true := by simpa using he1
      clear hz hz1 hle hle1 hr hok hst
      go_enter Tryz.func61, Tryz.ntmps61
      go_wp2_with fail
      refine (HN.out _ (below2r w _ _)).mono ?_
      rintro x w1 ⟨st2, rfl, hst2, hb1⟩
      dsimp only
      have hz1 : w.heap.size + 2 ≤ w1.heap.size := by
        have := hb1.size
        simp at this
        omega
      have hq := (hb1.block (w.heap.size + 1) (by simp)).trans (new2r w _ _).1
      have hp := (hb1.block w.heap.size (by simp; omega)).trans (new2r w _ _).2
      obtain ⟨p0, p1, p2, p3⟩ := cell_of_four hp
      obtain ⟨q0, q1, q2, q3⟩ := cell_of_four hq
      have z0 := free_of_block (o := 0) hq
      have z1 := free_of_block (o := 1) hq
      have z2 := free_of_block (o := 2) hq
      have z3 := free_of_block (o := 3) hq
      have HQ := hid hq
      have hbw := (below2r w _ _).trans (hb1.mono (by simp; omega))
      have hs0 : w.heap.size < w1.heap.size := by omega
      have hs1 : w.heap.size + 1 < w1.heap.size := by omega
      clear hq hp HN hb1
      have HS2 := hid (hst2 he1)
      clear hst2
      go_wp2
      go_region
      all_goals go_wp2
      all_goals
        refine bodyPost_ret (v := .tuple #[.string ⟨#[]⟩, .agg #[.slice ao bs.length c, .int .i64 (at' : Int), .int .i64 e1, .int .i64 st2]]) (by simp [results, Tryz.results61, go_sem, q0, q1, q2, q3, World.cell?_alloc_past, hs1]) rfl ?_
        refine ⟨st2, rfl, fun _ => HS2.out, ?_⟩
        repeat (first | (with_reducible exact hbw) | (with_reducible refine Below.drew ?_) | (with_reducible refine Below.setCell ?_ (by dsimp only; omega) _) | (with_reducible refine Below.alloc ?_ (by simp; omega) _))
  · rw [takeZ_stop 3 n bs at' e he]
    have he2 : (e != 0) = true := by simpa using he
    have HS := hid (hst he)
    clear hst
    go_enter Tryz.func61, Tryz.ntmps61
    go_wp2
    go_region
    all_goals go_wp2
    all_goals
      refine bodyPost_ret (v := .tuple #[.string ⟨#[]⟩, .agg #[.slice ao bs.length c, .int .i64 (at' : Int), .int .i64 e, .int .i64 st]]) (by simp [results, Tryz.results61, go_sem]) rfl ?_
      exact ⟨st, rfl, fun _ => HS.out, (((Below.refl _ _).alloc (Nat.le_refl _) _).alloc (by simp) _).drew⟩

end Go.Proofs.YtdnlfacfleemeaaGreat

namespace Go.Proofs.YtdnlfacfleemeaaGreat
open Go.RowKit

set_option maxRecDepth 100000 in
set_option maxHeartbeats 4000000 in
theorem rtakeInt_any (v : Value) (bs : List Int) (at' : Nat) (e st : Int) (w : World) (h : Sl w v bs) (ho : Oct bs) (hl : bs.length ≤ 1000000000) (ha : at' ≤ bs.length) (hst : e ≠ 0 → st = at') :
    Calls Tryz.prog 85 #[.agg #[v, .int .i64 at', .int .i64 e, .int .i64 st]] w fun x w' => RRPost w v (takeZ 2 0 bs at' e) (.int .i64 (unfoldZ (takeZ 2 0 bs at' e).1.1)) x w' := by
  have h1 := h
  obtain ⟨ao, c, rfl, hc, hx⟩ := h1
  clear hx
  by_cases he : e = 0
  · subst he
    obtain ⟨u, sz, e1, hr⟩ : ∃ u sz e1, rowGo 10 1 (bs.drop at') 0 0 = (u, sz, e1) := ⟨_, _, _, rfl⟩
    have hok := leadZ_ok 2 (bs.drop at') 0 (fun x hx => ho x (List.mem_of_mem_drop hx))
    have hle : leadZ 2 (bs.drop at') 0 = (u, sz, e1) := by
      rw [← hr]; rfl
    rw [hle] at hok
    dsimp only at hok
    have hdl : (bs.drop at').length = bs.length - at' := by simp
    have HR := hid (fun wx (hb : Below w.heap.size w wx) => rrow_any (.slice ao bs.length c) bs at' 0 st 10 1 wx (h.below hb) ho hl ha (by omega) (by omega) (by omega) (by omega) (by omega))
    have hrz : rrowZ 10 1 bs at' = (u, if e1 = 0 then (at' : Int) + sz else 0, e1) := by unfold rrowZ; rw [hr]
    by_cases he1 : e1 = 0
    · subst he1
      obtain ⟨k1, k2, k3, k4, k5⟩ := hok rfl
      have hz : takeZ 2 0 bs at' 0 = ((u, []), at' + sz.toNat, 0) := by
        unfold takeZ
        rw [if_pos rfl, hle]
        rfl
      rw [hz]
      dsimp only
      rw [if_pos rfl] at hrz
      rw [hrz] at HR
      have HQ2 := hid (new2r w (.cells #[.slice ao bs.length c, .int .i64 at', .int .i64 0, .int .i64 st] 74) (.cells #[.slice none 0 0, .int .i64 0, .int .i64 0, .int .i64 0] 74))
      clear hz hrz hle hr hok hst k5
      by_cases hpar : u % 2 = 0
      · rw [show unfoldZ u = u / 2 by unfold unfoldZ; rw [if_pos hpar]]
        go_enter Tryz.func85, Tryz.ntmps85
        go_wp2_with fail
        refine (HR.out _ (below2r w _ _)).mono ?_
        rintro x w1 ⟨rfl, hb1⟩
        dsimp only [tup3i]
        have hz1 : w.heap.size + 2 ≤ w1.heap.size := by
          have := hb1.size
          simp at this
          omega
        have hq := (hb1.block (w.heap.size + 1) (by simp)).trans (new2r w _ _).1
        have hp := (hb1.block w.heap.size (by simp; omega)).trans (new2r w _ _).2
        obtain ⟨p0, p1, p2, p3⟩ := cell_of_four hp
        have y0 := free_of_block (o := 1) hp
        obtain ⟨q0, q1, q2, q3⟩ := cell_of_four hq
        have z0 := free_of_block (o := 0) hq
        have z1 := free_of_block (o := 1) hq
        have z2 := free_of_block (o := 2) hq
        have z3 := free_of_block (o := 3) hq
        have hbw := (below2r w _ _).trans (hb1.mono (by simp; omega))
        clear hq hp HR HQ2 hb1
        go_wp2
        go_region
        all_goals go_wp2
        all_goals
          refine bodyPost_ret (v := .tuple #[.int .i64 (u / 2), .agg #[.slice ao bs.length c, .int .i64 ((at' : Int) + sz), .int .i64 0, .int .i64 st]]) (by simp [results, Tryz.results85, go_sem, q0, q1, q2, q3]) rfl ?_
          refine ⟨st, ?_, fun h => absurd rfl h, ?_⟩
          · have : ((at' + sz.toNat : Nat) : Int) = (at' : Int) + sz := by omega
            rw [this]
          · repeat (first | (with_reducible exact hbw) | (with_reducible refine Below.drew ?_) | (with_reducible refine Below.setCell ?_ (by dsimp only; omega) _) | (with_reducible refine Below.alloc ?_ (by simp; omega) _))
      · rw [show unfoldZ u = -(u / 2) - 1 by unfold unfoldZ; rw [if_neg hpar]; omega]
        have hpar2 : u % 2 = 1 := by omega
        have hw1 : IntKind.i64.wrap (u / 2) = u / 2 := by rw [IntKind.wrap_i64]; omega
        have hw2 : IntKind.i64.wrap (-(u / 2)) = -(u / 2) := by rw [IntKind.wrap_i64]; omega
        have hw3 : IntKind.i64.wrap (-(u / 2) - 1) = -(u / 2) - 1 := by rw [IntKind.wrap_i64]; omega
        clear hpar
        go_enter Tryz.func85, Tryz.ntmps85
        go_wp2_with fail
        refine (HR.out _ (below2r w _ _)).mono ?_
        rintro x w1 ⟨rfl, hb1⟩
        dsimp only [tup3i]
        have hz1 : w.heap.size + 2 ≤ w1.heap.size := by
          have := hb1.size
          simp at this
          omega
        have hq := (hb1.block (w.heap.size + 1) (by simp)).trans (new2r w _ _).1
        have hp := (hb1.block w.heap.size (by simp; omega)).trans (new2r w _ _).2
        obtain ⟨p0, p1, p2, p3⟩ := cell_of_four hp
        have y0 := free_of_block (o := 1) hp
        obtain ⟨q0, q1, q2, q3⟩ := cell_of_four hq
        have z0 := free_of_block (o := 0) hq
        have z1 := free_of_block (o := 1) hq
        have z2 := free_of_block (o := 2) hq
        have z3 := free_of_block (o := 3) hq
        have hbw := (below2r w _ _).trans (hb1.mono (by simp; omega))
        clear hq hp HR HQ2 hb1
        go_wp2
        go_region
        all_goals go_wp2
        all_goals
          refine bodyPost_ret (v := .tuple #[.int .i64 (-(u / 2) - 1), .agg #[.slice ao bs.length c, .int .i64 ((at' : Int) + sz), .int .i64 0, .int .i64 st]]) (by simp [results, Tryz.results85, go_sem, q0, q1, q2, q3]) rfl ?_
          refine ⟨st, ?_, fun h => absurd rfl h, ?_⟩
          · have : ((at' + sz.toNat : Nat) : Int) = (at' : Int) + sz := by omega
            rw [this]
          · repeat (first | (with_reducible exact hbw) | (with_reducible refine Below.drew ?_) | (with_reducible refine Below.setCell ?_ (by dsimp only; omega) _) | (with_reducible refine Below.alloc ?_ (by simp; omega) _))
    · have hz : takeZ 2 0 bs at' 0 = ((0, []), at', e1) := by
        unfold takeZ
        rw [if_pos rfl, hle]
        dsimp only
        rw [if_neg he1]
      rw [hz]
      dsimp only
      rw [if_neg he1] at hrz
      rw [hrz] at HR
      have he3 : (e1 != 0) = true := by simpa using he1
      have HN := hid he1
      clear hz hrz hle hr hok hst he1
      go_enter Tryz.func85, Tryz.ntmps85
      go_wp2_with fail
      refine (HR.out _ (below2r w _ _)).mono ?_
      rintro x w1 ⟨rfl, hb1⟩
      dsimp only [tup3i]
      have hz1 : w.heap.size + 2 ≤ w1.heap.size := by
        have := hb1.size
        simp at this
        omega
      have hq := (hb1.block (w.heap.size + 1) (by simp)).trans (new2r w _ _).1
      have hp := (hb1.block w.heap.size (by simp; omega)).trans (new2r w _ _).2
      obtain ⟨p0, p1, p2, p3⟩ := cell_of_four hp
      have HQ := hid hq
      have hbw := (below2r w _ _).trans (hb1.mono (by simp; omega))
      clear hq hp HR
      go_wp2_with fail
      refine (rends_any ao bs.length c at' 0 st e1 _).mono ?_
      rintro x w2 ⟨rfl, hb2⟩
      have hq2 := (hb2.block (w.heap.size + 1) (by omega)).trans HQ.out
      obtain ⟨q0, q1, q2, q3⟩ := cell_of_four hq2
      have z0 := free_of_block (o := 0) hq2
      have z1 := free_of_block (o := 1) hq2
      have z2 := free_of_block (o := 2) hq2
      have z3 := free_of_block (o := 3) hq2
      have HB2 := hid hb2
      clear hq2 hb2
      go_wp2
      refine bodyPost_ret (v := .tuple #[.int .i64 0, .agg #[.slice ao bs.length c, .int .i64 (at' : Int), .int .i64 e1, .int .i64 (at' : Int)]]) (by simp [results, Tryz.results85, go_sem, q0, q1, q2, q3]) rfl ?_
      exact ⟨at', rfl, fun _ => rfl, ((((hbw.trans (HB2.out.mono (by omega))).setCell (by simp) _).setCell (by simp) _).setCell (by simp) _).setCell (by simp) _⟩
  · rw [takeZ_stop 2 0 bs at' e he]
    have he2 : (e != 0) = true := by simpa using he
    have HS := hid (hst he)
    clear hst
    go_enter Tryz.func85, Tryz.ntmps85
    go_wp2
    go_region
    all_goals go_wp2
    all_goals
      refine bodyPost_ret (v := .tuple #[.int .i64 0, .agg #[.slice ao bs.length c, .int .i64 (at' : Int), .int .i64 e, .int .i64 st]]) (by simp [results, Tryz.results85, go_sem]) rfl ?_
      exact ⟨st, rfl, fun _ => HS.out, (((Below.refl _ _).alloc (Nat.le_refl _) _).alloc (by simp) _).drew⟩

end Go.Proofs.YtdnlfacfleemeaaGreat
