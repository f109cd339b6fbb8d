import Derived.Test.YtamajeagmkjjbaaRR2
import Derived.Test.YtamajeagmkjjbaaRR3
namespace Go.Proofs.Ytamajeagmkjjbaa
open Go.RowKit

set_option maxRecDepth 100000 in
set_option maxHeartbeats 800000 in
theorem rtakeNum_any (v : Value) (bs : List Int) (at' : Nat) (e st : Int) (w : World) (h : Sl w v bs) (ho : Oct bs) (hl : bs.length ≤ 1000000000) (ha : at' ≤ bs.length) (hst : e ≠ 0 → st = at') :
    Calls Try.prog 47 #[.agg #[v, .int .i64 at', .int .i64 e, .int .i64 st]] w fun x w' => RRPost w v (takeZ 1 0 bs at' e) (.int .i64 (takeZ 1 0 bs at' e).1.1) x w' := by
  have h1 := h
  obtain ⟨ao, c, rfl, hc, hx⟩ := h1
  clear hx
  by_cases he : e = 0
  · subst he
    obtain ⟨u, sz, e1, hr⟩ : ∃ u sz e1, rowGo 9 127 (bs.drop at') 0 0 = (u, sz, e1) := ⟨_, _, _, rfl⟩
    have hok := leadZ_ok 1 (bs.drop at') 0 (fun x hx => ho x (List.mem_of_mem_drop hx))
    have hle : leadZ 1 (bs.drop at') 0 = (u, sz, e1) := by
      rw [← hr]; rfl
    rw [hle] at hok
    dsimp only at hok
    have hdl : (bs.drop at').length = bs.length - at' := by simp
    have HR := hid (fun wx (hb : Below w.heap.size w wx) => rrow_any (.slice ao bs.length c) bs at' 0 st 9 127 wx (h.below hb) ho hl ha (by omega) (by omega) (by omega) (by omega) (by omega))
    have hrz : rrowZ 9 127 bs at' = (u, if e1 = 0 then (at' : Int) + sz else 0, e1) := by unfold rrowZ; rw [hr]
    by_cases he1 : e1 = 0
    · subst he1
      obtain ⟨k1, k2, k3, k4, k5⟩ := hok rfl
      have hz : takeZ 1 0 bs at' 0 = ((u, []), at' + sz.toNat, 0) := by
        unfold takeZ
        rw [if_pos rfl, hle]
        rfl
      rw [hz]
      dsimp only
      rw [if_pos rfl] at hrz
      rw [hrz] at HR
      have HQ2 := hid (new2r w (.cells #[.slice ao bs.length c, .int .i64 at', .int .i64 0, .int .i64 st] 44) (.cells #[.slice none 0 0, .int .i64 0, .int .i64 0, .int .i64 0] 44))
      have hu := k5 (by omega) (by omega)
      clear hz hrz hle hr hok hst k5
      go_enter Try.func47, Try.ntmps47
      go_wp2_with fail
      refine (HR.out _ (below2 w _ _)).mono ?_
      rintro x w1 ⟨rfl, hb1⟩
      dsimp only [tup3i]
      have hz1 : w.heap.size + 2 ≤ w1.heap.size := by
        have := hb1.size
        simp at this
        omega
      have hq := (hb1.block (w.heap.size + 1) (by simp)).trans (new2r w _ _).1
      have hp := (hb1.block w.heap.size (by simp; omega)).trans (new2r w _ _).2
      obtain ⟨p0, p1, p2, p3⟩ := cell_of_four hp
      have y0 := free_of_block (o := 1) hp
      obtain ⟨q0, q1, q2, q3⟩ := cell_of_four hq
      have z0 := free_of_block (o := 0) hq
      have z1 := free_of_block (o := 1) hq
      have z2 := free_of_block (o := 2) hq
      have z3 := free_of_block (o := 3) hq
      have hbw := (below2 w _ _).trans (hb1.mono (by simp; omega))
      clear hq hp HR HQ2 hb1
      go_wp2
      go_region
      all_goals go_wp2
      all_goals
        refine bodyPost_ret (v := .tuple #[.int .i64 u, .agg #[.slice ao bs.length c, .int .i64 ((at' : Int) + sz), .int .i64 0, .int .i64 st]]) (by simp [results, Try.results47, go_sem, q0, q1, q2, q3]) rfl ?_
        refine ⟨st, ?_, fun h => absurd rfl h, ?_⟩
        · have : ((at' + sz.toNat : Nat) : Int) = (at' : Int) + sz := by omega
          rw [this]
        · repeat (first | (with_reducible exact hbw) | (with_reducible refine Below.drew ?_) | (with_reducible refine Below.setCell ?_ (by dsimp only; omega) _) | (with_reducible refine Below.alloc ?_ (by simp; omega) _))
    · have hz : takeZ 1 0 bs at' 0 = ((0, []), at', e1) := by
        unfold takeZ
        rw [if_pos rfl, hle]
        dsimp only
        rw [if_neg he1]
      rw [hz]
      dsimp only
      rw [if_neg he1] at hrz
      rw [hrz] at HR
      have he3 : (e1 != 0) = true := by simpa using he1
      have HN := hid he1
      clear hz hrz hle hr hok hst he1
      go_enter Try.func47, Try.ntmps47
      go_wp2_with fail
      refine (HR.out _ (below2 w _ _)).mono ?_
      rintro x w1 ⟨rfl, hb1⟩
      dsimp only [tup3i]
      have hz1 : w.heap.size + 2 ≤ w1.heap.size := by
        have := hb1.size
        simp at this
        omega
      have hq := (hb1.block (w.heap.size + 1) (by simp)).trans (new2r w _ _).1
      have hp := (hb1.block w.heap.size (by simp; omega)).trans (new2r w _ _).2
      obtain ⟨p0, p1, p2, p3⟩ := cell_of_four hp
      have HQ := hid hq
      have hbw := (below2 w _ _).trans (hb1.mono (by simp; omega))
      clear hq hp HR
      go_wp2_with fail
      refine (rends_any ao bs.length c at' 0 st e1 _).mono ?_
      rintro x w2 ⟨rfl, hb2⟩
      have hq2 := (hb2.block (w.heap.size + 1) (by omega)).trans HQ.out
      obtain ⟨q0, q1, q2, q3⟩ := cell_of_four hq2
      have z0 := free_of_block (o := 0) hq2
      have z1 := free_of_block (o := 1) hq2
      have z2 := free_of_block (o := 2) hq2
      have z3 := free_of_block (o := 3) hq2
      have HB2 := hid hb2
      clear hq2 hb2
      go_wp2
      refine bodyPost_ret (v := .tuple #[.int .i64 0, .agg #[.slice ao bs.length c, .int .i64 (at' : Int), .int .i64 e1, .int .i64 (at' : Int)]]) (by simp [results, Try.results47, go_sem, q0, q1, q2, q3]) rfl ?_
      exact ⟨at', rfl, fun _ => rfl, ((((hbw.trans (HB2.out.mono (by omega))).setCell (by simp) _).setCell (by simp) _).setCell (by simp) _).setCell (by simp) _⟩
  · rw [takeZ_stop 1 0 bs at' e he]
    have he2 : (e != 0) = true := by simpa using he
    have HS := hid (hst he)
    clear hst
    go_enter Try.func47, Try.ntmps47
    go_wp2
    go_region
    all_goals go_wp2
    all_goals
      refine bodyPost_ret (v := .tuple #[.int .i64 0, .agg #[.slice ao bs.length c, .int .i64 (at' : Int), .int .i64 e, .int .i64 st]]) (by simp [results, Try.results47, go_sem]) rfl ?_
      exact ⟨st, rfl, fun _ => HS.out, (((Below.refl _ _).alloc (Nat.le_refl _) _).alloc (by simp) _).drew⟩

end Go.Proofs.Ytamajeagmkjjbaa
