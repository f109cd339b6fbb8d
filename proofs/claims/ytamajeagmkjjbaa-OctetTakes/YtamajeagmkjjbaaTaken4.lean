import Derived.Test.YtamajeagmkjjbaaTaken2
import Derived.Test.YtamajeagmkjjbaaTaken3
namespace Go.Proofs.Ytamajeagmkjjbaa
open Go.RowKit

set_option maxRecDepth 100000 in
set_option maxHeartbeats 4000000 in
theorem taken0 (v : Value) (bs : List Int) (at' : Nat) (e st : Int) (kind n u i : Int) (s : ByteArray) (w : World) (h : Sl w v bs) (hst : e ≠ 0 → st = at') (d1 : (kind == 1) = false) (d2 : (kind == 2) = false) (d3 : (kind == 3) = false) (d4 : (kind == 4) = false) (d5 : (kind == 5) = false) :
    Calls Try.prog 20 #[.agg #[v, .int .i64 at', .int .i64 e, .int .i64 st], .agg #[.int .i64 kind, .int .i64 n, .int .u64 u, .int .i64 i, .string s]] w fun x w' => TNPost w v ((0, 0, []), at', e) x w' := by
  obtain ⟨ao, c, rfl, hcc⟩ := h
  have HS := hid hst
  have hb5 := hid (below5 w)
  clear hcc hst
  go_enter Try.func20, Try.ntmps20
  go_wp2
  go_region
  all_goals go_wp2
  all_goals
    refine bodyPost_ret (v := .tuple #[.agg #[.int .u64 0, .int .i64 0, .string ⟨#[]⟩], .agg #[.slice ao bs.length c, .int .i64 (at' : Int), .int .i64 e, .int .i64 st]]) (by simp [results, Try.results20, go_sem]) rfl ?_
    refine ⟨st, rfl, HS.out, ?_⟩
    with_reducible refine Below.drew ?_
    exact hb5.out _ _ _ _ _

theorem taken_any (v : Value) (bs : List Int) (at' : Nat) (e st : Int) (x : It) (w : World) (h : Sl w v bs) (ho : Oct bs) (hl : bs.length ≤ 1000000000) (ha : at' ≤ bs.length) (hst : e ≠ 0 → st = at') (hx : x.ok) :
    Calls Try.prog 20 #[.agg #[v, .int .i64 at', .int .i64 e, .int .i64 st], x.val] w fun y w' => TNPost w v (itZ x bs at' e) y w' := by
  obtain ⟨kind, n, u, i, s⟩ := x
  obtain ⟨_, ⟨n0, n1⟩, _, _, _⟩ := hx
  unfold It.val itZ
  dsimp only
  by_cases c1 : kind = 1
  · rw [if_pos c1]
    subst c1
    exact taken1 v bs at' e st n u i s w h ho hl ha hst n0 n1
  · rw [if_neg c1]
    by_cases c2 : kind = 2
    · rw [if_pos c2]
      subst c2
      exact taken2 v bs at' e st n u i s w h ho hl ha hst n0 n1
    · rw [if_neg c2]
      by_cases c3 : kind = 3
      · rw [if_pos c3]
        subst c3
        exact taken3 v bs at' e st n u i s w h ho hl ha hst n0 n1
      · rw [if_neg c3]
        by_cases c4 : kind = 4
        · rw [if_pos c4]
          subst c4
          exact taken4 v bs at' e st n u i s w h ho hl ha hst n0 n1
        · rw [if_neg c4]
          by_cases c5 : kind = 5
          · rw [if_pos c5]
            subst c5
            exact taken5 v bs at' e st n u i s w h ho hl ha hst n0 n1
          · rw [if_neg c5]
            exact taken0 v bs at' e st kind n u i s w h hst (by simpa using c1) (by simpa using c2) (by simpa using c3) (by simpa using c4) (by simpa using c5)

end Go.Proofs.Ytamajeagmkjjbaa
