import Derived.Test.YtiammlngbejhkaaK11
import Derived.Test.YtiammlngbejhkaaK12
import Derived.Test.YtiammlngbejhkaaK13
import Derived.Test.YtiammlngbejhkaaK14
import Derived.Test.YtiammlngbejhkaaK15
import Derived.Test.YtiammlngbejhkaaK16
import Derived.Test.YtiammlngbejhkaaK17
namespace Go.Proofs.Ytiammlngbejhkaa
open Go.RowKit

theorem cmp_is (k i : Int) (s : ByteArray) (l j : Int) (t : ByteArray) (x : Int) (h : cmpV k i s l j t = x) : ∀ w, Calls Try.prog 12 #[vl k i s, vl l j t] w fun e w' => e = .returned (.int .i64 x) ∧ Below w.heap.size w w' := by
  intro w; rw [← h]; exact compare_any k i s l j t w
theorem holds_is (n : Int) (k i : Int) (s : ByteArray) (l j : Int) (t : ByteArray) (b : Bool) (h : holdsB n (cmpV k i s l j t) = b) : ∀ w, Calls Try.prog 14 #[.int .i64 n, vl k i s, vl l j t] w fun e w' => e = .returned (.bool b) ∧ Below w.heap.size w w' := by
  intro w; rw [← h]; exact holds_any n k i s l j t w
theorem check_is (k i : Int) (s : ByteArray) (r : Int) (h : chk k i s = r) : ∀ w, Calls Try.prog 10 #[vl k i s] w fun e w' => e = .returned (.int .i64 r) ∧ Below w.heap.size w w' := by
  intro w; rw [← h]; exact check_any k i s w

theorem order_at_m1_m1 (ka ia : Int) (sa : ByteArray) (kb ib : Int) (sb : ByteArray) (kc ic : Int) (sc : ByteArray) (w : World) (l1 : (sa.size : Int) ≤ 100000) (l2 : (sb.size : Int) ≤ 100000) (l3 : (sc.size : Int) ≤ 100000) (hx : cmpV ka ia sa kb ib sb = (-1)) (hy : cmpV kb ib sb kc ic sc = (-1)) (hz : cmpV ka ia sa kc ic sc = (-1)) :
    Calls Try.prog 7 #[vl ka ia sa, vl kb ib sb, vl kc ic sc] w fun x w' => x = .returned (.bool true) ∧ Below w.heap.size w w' := by
  have hBA := cmpV_anti ka ia sa kb ib sb
  rw [hx] at hBA
  by_cases ca : chk ka ia sa = 0
  · by_cases cb : chk kb ib sb = 0
    · by_cases ek : ka = kb
      · subst ek
        by_cases ei : ia = ib
        · subst ei
          have es : (sa.toList == sb.toList) = false := by
            rw [beq_eq_false_iff_ne]
            intro h
            have e := toList_inj h
            subst e
            rw [cmpV_self] at hx
            omega
          exact order_m1_m1_ds ka ia sa ka ia sb kc ic sc w l1 l2 l3 es (cmp_is _ _ _ _ _ _ _ hx) (cmp_is _ _ _ _ _ _ _ hy) (cmp_is _ _ _ _ _ _ _ hz) (cmp_is _ _ _ _ _ _ _ hBA) (cmp_is _ _ _ _ _ _ _ (cmpV_self ka ia sa)) (check_is _ _ _ _ ca) (check_is _ _ _ _ cb) (holds_is 3 _ _ _ _ _ _ _ (by rw [hx]; rfl)) (holds_is 1 _ _ _ _ _ _ _ (by rw [hx]; rfl)) (holds_is 5 _ _ _ _ _ _ _ (by rw [hx]; rfl)) (holds_is 4 _ _ _ _ _ _ _ (by rw [hx]; rfl)) (holds_is 6 _ _ _ _ _ _ _ (by rw [hx]; rfl)) (holds_is 2 _ _ _ _ _ _ _ (by rw [hx]; rfl))
        · have ei2 : (ia == ib) = false := by simpa using ei
          exact order_m1_m1_di ka ia sa ka ib sb kc ic sc w l1 l2 l3 ei2 (cmp_is _ _ _ _ _ _ _ hx) (cmp_is _ _ _ _ _ _ _ hy) (cmp_is _ _ _ _ _ _ _ hz) (cmp_is _ _ _ _ _ _ _ hBA) (cmp_is _ _ _ _ _ _ _ (cmpV_self ka ia sa)) (check_is _ _ _ _ ca) (check_is _ _ _ _ cb) (holds_is 3 _ _ _ _ _ _ _ (by rw [hx]; rfl)) (holds_is 1 _ _ _ _ _ _ _ (by rw [hx]; rfl)) (holds_is 5 _ _ _ _ _ _ _ (by rw [hx]; rfl)) (holds_is 4 _ _ _ _ _ _ _ (by rw [hx]; rfl)) (holds_is 6 _ _ _ _ _ _ _ (by rw [hx]; rfl)) (holds_is 2 _ _ _ _ _ _ _ (by rw [hx]; rfl))
      · have ek2 : (ka == kb) = false := by simpa using ek
        exact order_m1_m1_dk ka ia sa kb ib sb kc ic sc w l1 l2 l3 ek2 (cmp_is _ _ _ _ _ _ _ hx) (cmp_is _ _ _ _ _ _ _ hy) (cmp_is _ _ _ _ _ _ _ hz) (cmp_is _ _ _ _ _ _ _ hBA) (cmp_is _ _ _ _ _ _ _ (cmpV_self ka ia sa)) (check_is _ _ _ _ ca) (check_is _ _ _ _ cb) (holds_is 3 _ _ _ _ _ _ _ (by rw [hx]; rfl)) (holds_is 1 _ _ _ _ _ _ _ (by rw [hx]; rfl)) (holds_is 5 _ _ _ _ _ _ _ (by rw [hx]; rfl)) (holds_is 4 _ _ _ _ _ _ _ (by rw [hx]; rfl)) (holds_is 6 _ _ _ _ _ _ _ (by rw [hx]; rfl)) (holds_is 2 _ _ _ _ _ _ _ (by rw [hx]; rfl))
    · have cb2 : (chk kb ib sb == 0) = false := by simpa using cb
      exact order_m1_m1_nb ka ia sa kb ib sb kc ic sc w l1 l2 l3 _ cb2 (cmp_is _ _ _ _ _ _ _ hx) (cmp_is _ _ _ _ _ _ _ hy) (cmp_is _ _ _ _ _ _ _ hz) (cmp_is _ _ _ _ _ _ _ hBA) (cmp_is _ _ _ _ _ _ _ (cmpV_self ka ia sa)) (check_is _ _ _ _ ca) (check_is _ _ _ _ rfl) (holds_is 3 _ _ _ _ _ _ _ (by rw [hx]; rfl)) (holds_is 1 _ _ _ _ _ _ _ (by rw [hx]; rfl)) (holds_is 5 _ _ _ _ _ _ _ (by rw [hx]; rfl)) (holds_is 4 _ _ _ _ _ _ _ (by rw [hx]; rfl)) (holds_is 6 _ _ _ _ _ _ _ (by rw [hx]; rfl)) (holds_is 2 _ _ _ _ _ _ _ (by rw [hx]; rfl))
  · have ca2 : (chk ka ia sa == 0) = false := by simpa using ca
    exact order_m1_m1_na ka ia sa kb ib sb kc ic sc w l1 l2 l3 _ _ ca2 (cmp_is _ _ _ _ _ _ _ hx) (cmp_is _ _ _ _ _ _ _ hy) (cmp_is _ _ _ _ _ _ _ hz) (cmp_is _ _ _ _ _ _ _ hBA) (cmp_is _ _ _ _ _ _ _ (cmpV_self ka ia sa)) (check_is _ _ _ _ rfl) (check_is _ _ _ _ rfl) (holds_is 3 _ _ _ _ _ _ _ (by rw [hx]; rfl)) (holds_is 1 _ _ _ _ _ _ _ (by rw [hx]; rfl)) (holds_is 5 _ _ _ _ _ _ _ (by rw [hx]; rfl)) (holds_is 4 _ _ _ _ _ _ _ (by rw [hx]; rfl)) (holds_is 6 _ _ _ _ _ _ _ (by rw [hx]; rfl)) (holds_is 2 _ _ _ _ _ _ _ (by rw [hx]; rfl))

theorem order_at_m1_0 (ka ia : Int) (sa : ByteArray) (kb ib : Int) (sb : ByteArray) (kc ic : Int) (sc : ByteArray) (w : World) (l1 : (sa.size : Int) ≤ 100000) (l2 : (sb.size : Int) ≤ 100000) (l3 : (sc.size : Int) ≤ 100000) (hx : cmpV ka ia sa kb ib sb = (-1)) (hy : cmpV kb ib sb kc ic sc = 0) (hz : cmpV ka ia sa kc ic sc = (-1)) :
    Calls Try.prog 7 #[vl ka ia sa, vl kb ib sb, vl kc ic sc] w fun x w' => x = .returned (.bool true) ∧ Below w.heap.size w w' := by
  have hBA := cmpV_anti ka ia sa kb ib sb
  rw [hx] at hBA
  by_cases ca : chk ka ia sa = 0
  · by_cases cb : chk kb ib sb = 0
    · by_cases ek : ka = kb
      · subst ek
        by_cases ei : ia = ib
        · subst ei
          have es : (sa.toList == sb.toList) = false := by
            rw [beq_eq_false_iff_ne]
            intro h
            have e := toList_inj h
            subst e
            rw [cmpV_self] at hx
            omega
          exact order_m1_0_ds ka ia sa ka ia sb kc ic sc w l1 l2 l3 es (cmp_is _ _ _ _ _ _ _ hx) (cmp_is _ _ _ _ _ _ _ hy) (cmp_is _ _ _ _ _ _ _ hz) (cmp_is _ _ _ _ _ _ _ hBA) (cmp_is _ _ _ _ _ _ _ (cmpV_self ka ia sa)) (check_is _ _ _ _ ca) (check_is _ _ _ _ cb) (holds_is 3 _ _ _ _ _ _ _ (by rw [hx]; rfl)) (holds_is 1 _ _ _ _ _ _ _ (by rw [hx]; rfl)) (holds_is 5 _ _ _ _ _ _ _ (by rw [hx]; rfl)) (holds_is 4 _ _ _ _ _ _ _ (by rw [hx]; rfl)) (holds_is 6 _ _ _ _ _ _ _ (by rw [hx]; rfl)) (holds_is 2 _ _ _ _ _ _ _ (by rw [hx]; rfl))
        · have ei2 : (ia == ib) = false := by simpa using ei
          exact order_m1_0_di ka ia sa ka ib sb kc ic sc w l1 l2 l3 ei2 (cmp_is _ _ _ _ _ _ _ hx) (cmp_is _ _ _ _ _ _ _ hy) (cmp_is _ _ _ _ _ _ _ hz) (cmp_is _ _ _ _ _ _ _ hBA) (cmp_is _ _ _ _ _ _ _ (cmpV_self ka ia sa)) (check_is _ _ _ _ ca) (check_is _ _ _ _ cb) (holds_is 3 _ _ _ _ _ _ _ (by rw [hx]; rfl)) (holds_is 1 _ _ _ _ _ _ _ (by rw [hx]; rfl)) (holds_is 5 _ _ _ _ _ _ _ (by rw [hx]; rfl)) (holds_is 4 _ _ _ _ _ _ _ (by rw [hx]; rfl)) (holds_is 6 _ _ _ _ _ _ _ (by rw [hx]; rfl)) (holds_is 2 _ _ _ _ _ _ _ (by rw [hx]; rfl))
      · have ek2 : (ka == kb) = false := by simpa using ek
        exact order_m1_0_dk ka ia sa kb ib sb kc ic sc w l1 l2 l3 ek2 (cmp_is _ _ _ _ _ _ _ hx) (cmp_is _ _ _ _ _ _ _ hy) (cmp_is _ _ _ _ _ _ _ hz) (cmp_is _ _ _ _ _ _ _ hBA) (cmp_is _ _ _ _ _ _ _ (cmpV_self ka ia sa)) (check_is _ _ _ _ ca) (check_is _ _ _ _ cb) (holds_is 3 _ _ _ _ _ _ _ (by rw [hx]; rfl)) (holds_is 1 _ _ _ _ _ _ _ (by rw [hx]; rfl)) (holds_is 5 _ _ _ _ _ _ _ (by rw [hx]; rfl)) (holds_is 4 _ _ _ _ _ _ _ (by rw [hx]; rfl)) (holds_is 6 _ _ _ _ _ _ _ (by rw [hx]; rfl)) (holds_is 2 _ _ _ _ _ _ _ (by rw [hx]; rfl))
    · have cb2 : (chk kb ib sb == 0) = false := by simpa using cb
      exact order_m1_0_nb ka ia sa kb ib sb kc ic sc w l1 l2 l3 _ cb2 (cmp_is _ _ _ _ _ _ _ hx) (cmp_is _ _ _ _ _ _ _ hy) (cmp_is _ _ _ _ _ _ _ hz) (cmp_is _ _ _ _ _ _ _ hBA) (cmp_is _ _ _ _ _ _ _ (cmpV_self ka ia sa)) (check_is _ _ _ _ ca) (check_is _ _ _ _ rfl) (holds_is 3 _ _ _ _ _ _ _ (by rw [hx]; rfl)) (holds_is 1 _ _ _ _ _ _ _ (by rw [hx]; rfl)) (holds_is 5 _ _ _ _ _ _ _ (by rw [hx]; rfl)) (holds_is 4 _ _ _ _ _ _ _ (by rw [hx]; rfl)) (holds_is 6 _ _ _ _ _ _ _ (by rw [hx]; rfl)) (holds_is 2 _ _ _ _ _ _ _ (by rw [hx]; rfl))
  · have ca2 : (chk ka ia sa == 0) = false := by simpa using ca
    exact order_m1_0_na ka ia sa kb ib sb kc ic sc w l1 l2 l3 _ _ ca2 (cmp_is _ _ _ _ _ _ _ hx) (cmp_is _ _ _ _ _ _ _ hy) (cmp_is _ _ _ _ _ _ _ hz) (cmp_is _ _ _ _ _ _ _ hBA) (cmp_is _ _ _ _ _ _ _ (cmpV_self ka ia sa)) (check_is _ _ _ _ rfl) (check_is _ _ _ _ rfl) (holds_is 3 _ _ _ _ _ _ _ (by rw [hx]; rfl)) (holds_is 1 _ _ _ _ _ _ _ (by rw [hx]; rfl)) (holds_is 5 _ _ _ _ _ _ _ (by rw [hx]; rfl)) (holds_is 4 _ _ _ _ _ _ _ (by rw [hx]; rfl)) (holds_is 6 _ _ _ _ _ _ _ (by rw [hx]; rfl)) (holds_is 2 _ _ _ _ _ _ _ (by rw [hx]; rfl))

theorem order_at_m1_1 (ka ia : Int) (sa : ByteArray) (kb ib : Int) (sb : ByteArray) (kc ic : Int) (sc : ByteArray) (w : World) (l1 : (sa.size : Int) ≤ 100000) (l2 : (sb.size : Int) ≤ 100000) (l3 : (sc.size : Int) ≤ 100000) (hx : cmpV ka ia sa kb ib sb = (-1)) (hy : cmpV kb ib sb kc ic sc = 1) :
    Calls Try.prog 7 #[vl ka ia sa, vl kb ib sb, vl kc ic sc] w fun x w' => x = .returned (.bool true) ∧ Below w.heap.size w w' := by
  have hBA := cmpV_anti ka ia sa kb ib sb
  rw [hx] at hBA
  by_cases ca : chk ka ia sa = 0
  · by_cases cb : chk kb ib sb = 0
    · by_cases ek : ka = kb
      · subst ek
        by_cases ei : ia = ib
        · subst ei
          have es : (sa.toList == sb.toList) = false := by
            rw [beq_eq_false_iff_ne]
            intro h
            have e := toList_inj h
            subst e
            rw [cmpV_self] at hx
            omega
          exact order_m1_1_ds ka ia sa ka ia sb kc ic sc w l1 l2 l3 _ es (cmp_is _ _ _ _ _ _ _ hx) (cmp_is _ _ _ _ _ _ _ hy) (cmp_is _ _ _ _ _ _ _ rfl) (cmp_is _ _ _ _ _ _ _ hBA) (cmp_is _ _ _ _ _ _ _ (cmpV_self ka ia sa)) (check_is _ _ _ _ ca) (check_is _ _ _ _ cb) (holds_is 3 _ _ _ _ _ _ _ (by rw [hx]; rfl)) (holds_is 1 _ _ _ _ _ _ _ (by rw [hx]; rfl)) (holds_is 5 _ _ _ _ _ _ _ (by rw [hx]; rfl)) (holds_is 4 _ _ _ _ _ _ _ (by rw [hx]; rfl)) (holds_is 6 _ _ _ _ _ _ _ (by rw [hx]; rfl)) (holds_is 2 _ _ _ _ _ _ _ (by rw [hx]; rfl))
        · have ei2 : (ia == ib) = false := by simpa using ei
          exact order_m1_1_di ka ia sa ka ib sb kc ic sc w l1 l2 l3 _ ei2 (cmp_is _ _ _ _ _ _ _ hx) (cmp_is _ _ _ _ _ _ _ hy) (cmp_is _ _ _ _ _ _ _ rfl) (cmp_is _ _ _ _ _ _ _ hBA) (cmp_is _ _ _ _ _ _ _ (cmpV_self ka ia sa)) (check_is _ _ _ _ ca) (check_is _ _ _ _ cb) (holds_is 3 _ _ _ _ _ _ _ (by rw [hx]; rfl)) (holds_is 1 _ _ _ _ _ _ _ (by rw [hx]; rfl)) (holds_is 5 _ _ _ _ _ _ _ (by rw [hx]; rfl)) (holds_is 4 _ _ _ _ _ _ _ (by rw [hx]; rfl)) (holds_is 6 _ _ _ _ _ _ _ (by rw [hx]; rfl)) (holds_is 2 _ _ _ _ _ _ _ (by rw [hx]; rfl))
      · have ek2 : (ka == kb) = false := by simpa using ek
        exact order_m1_1_dk ka ia sa kb ib sb kc ic sc w l1 l2 l3 _ ek2 (cmp_is _ _ _ _ _ _ _ hx) (cmp_is _ _ _ _ _ _ _ hy) (cmp_is _ _ _ _ _ _ _ rfl) (cmp_is _ _ _ _ _ _ _ hBA) (cmp_is _ _ _ _ _ _ _ (cmpV_self ka ia sa)) (check_is _ _ _ _ ca) (check_is _ _ _ _ cb) (holds_is 3 _ _ _ _ _ _ _ (by rw [hx]; rfl)) (holds_is 1 _ _ _ _ _ _ _ (by rw [hx]; rfl)) (holds_is 5 _ _ _ _ _ _ _ (by rw [hx]; rfl)) (holds_is 4 _ _ _ _ _ _ _ (by rw [hx]; rfl)) (holds_is 6 _ _ _ _ _ _ _ (by rw [hx]; rfl)) (holds_is 2 _ _ _ _ _ _ _ (by rw [hx]; rfl))
    · have cb2 : (chk kb ib sb == 0) = false := by simpa using cb
      exact order_m1_1_nb ka ia sa kb ib sb kc ic sc w l1 l2 l3 _ _ cb2 (cmp_is _ _ _ _ _ _ _ hx) (cmp_is _ _ _ _ _ _ _ hy) (cmp_is _ _ _ _ _ _ _ rfl) (cmp_is _ _ _ _ _ _ _ hBA) (cmp_is _ _ _ _ _ _ _ (cmpV_self ka ia sa)) (check_is _ _ _ _ ca) (check_is _ _ _ _ rfl) (holds_is 3 _ _ _ _ _ _ _ (by rw [hx]; rfl)) (holds_is 1 _ _ _ _ _ _ _ (by rw [hx]; rfl)) (holds_is 5 _ _ _ _ _ _ _ (by rw [hx]; rfl)) (holds_is 4 _ _ _ _ _ _ _ (by rw [hx]; rfl)) (holds_is 6 _ _ _ _ _ _ _ (by rw [hx]; rfl)) (holds_is 2 _ _ _ _ _ _ _ (by rw [hx]; rfl))
  · have ca2 : (chk ka ia sa == 0) = false := by simpa using ca
    exact order_m1_1_na ka ia sa kb ib sb kc ic sc w l1 l2 l3 _ _ _ ca2 (cmp_is _ _ _ _ _ _ _ hx) (cmp_is _ _ _ _ _ _ _ hy) (cmp_is _ _ _ _ _ _ _ rfl) (cmp_is _ _ _ _ _ _ _ hBA) (cmp_is _ _ _ _ _ _ _ (cmpV_self ka ia sa)) (check_is _ _ _ _ rfl) (check_is _ _ _ _ rfl) (holds_is 3 _ _ _ _ _ _ _ (by rw [hx]; rfl)) (holds_is 1 _ _ _ _ _ _ _ (by rw [hx]; rfl)) (holds_is 5 _ _ _ _ _ _ _ (by rw [hx]; rfl)) (holds_is 4 _ _ _ _ _ _ _ (by rw [hx]; rfl)) (holds_is 6 _ _ _ _ _ _ _ (by rw [hx]; rfl)) (holds_is 2 _ _ _ _ _ _ _ (by rw [hx]; rfl))

theorem order_at_0_m1 (ka ia : Int) (sa : ByteArray) (kb ib : Int) (sb : ByteArray) (kc ic : Int) (sc : ByteArray) (w : World) (l1 : (sa.size : Int) ≤ 100000) (l2 : (sb.size : Int) ≤ 100000) (l3 : (sc.size : Int) ≤ 100000) (hx : cmpV ka ia sa kb ib sb = 0) (hy : cmpV kb ib sb kc ic sc = (-1)) (hz : cmpV ka ia sa kc ic sc = (-1)) :
    Calls Try.prog 7 #[vl ka ia sa, vl kb ib sb, vl kc ic sc] w fun x w' => x = .returned (.bool true) ∧ Below w.heap.size w w' := by
  have hBA := cmpV_anti ka ia sa kb ib sb
  rw [hx] at hBA
  by_cases ca : chk ka ia sa = 0
  · by_cases cb : chk kb ib sb = 0
    · obtain ⟨rfl, rfl, rfl⟩ := cmpV_same _ _ _ _ _ _ hx ca cb
      exact order_0_m1_eq ka ia sa ka ia sa kc ic sc w l1 l2 l3 (cmp_is _ _ _ _ _ _ _ hx) (cmp_is _ _ _ _ _ _ _ hy) (cmp_is _ _ _ _ _ _ _ hz) (cmp_is _ _ _ _ _ _ _ hBA) (cmp_is _ _ _ _ _ _ _ (cmpV_self ka ia sa)) (check_is _ _ _ _ ca) (check_is _ _ _ _ cb) (holds_is 3 _ _ _ _ _ _ _ (by rw [hx]; rfl)) (holds_is 1 _ _ _ _ _ _ _ (by rw [hx]; rfl)) (holds_is 5 _ _ _ _ _ _ _ (by rw [hx]; rfl)) (holds_is 4 _ _ _ _ _ _ _ (by rw [hx]; rfl)) (holds_is 6 _ _ _ _ _ _ _ (by rw [hx]; rfl)) (holds_is 2 _ _ _ _ _ _ _ (by rw [hx]; rfl))
    · have cb2 : (chk kb ib sb == 0) = false := by simpa using cb
      exact order_0_m1_nb ka ia sa kb ib sb kc ic sc w l1 l2 l3 _ cb2 (cmp_is _ _ _ _ _ _ _ hx) (cmp_is _ _ _ _ _ _ _ hy) (cmp_is _ _ _ _ _ _ _ hz) (cmp_is _ _ _ _ _ _ _ hBA) (cmp_is _ _ _ _ _ _ _ (cmpV_self ka ia sa)) (check_is _ _ _ _ ca) (check_is _ _ _ _ rfl) (holds_is 3 _ _ _ _ _ _ _ (by rw [hx]; rfl)) (holds_is 1 _ _ _ _ _ _ _ (by rw [hx]; rfl)) (holds_is 5 _ _ _ _ _ _ _ (by rw [hx]; rfl)) (holds_is 4 _ _ _ _ _ _ _ (by rw [hx]; rfl)) (holds_is 6 _ _ _ _ _ _ _ (by rw [hx]; rfl)) (holds_is 2 _ _ _ _ _ _ _ (by rw [hx]; rfl))
  · have ca2 : (chk ka ia sa == 0) = false := by simpa using ca
    exact order_0_m1_na ka ia sa kb ib sb kc ic sc w l1 l2 l3 _ _ ca2 (cmp_is _ _ _ _ _ _ _ hx) (cmp_is _ _ _ _ _ _ _ hy) (cmp_is _ _ _ _ _ _ _ hz) (cmp_is _ _ _ _ _ _ _ hBA) (cmp_is _ _ _ _ _ _ _ (cmpV_self ka ia sa)) (check_is _ _ _ _ rfl) (check_is _ _ _ _ rfl) (holds_is 3 _ _ _ _ _ _ _ (by rw [hx]; rfl)) (holds_is 1 _ _ _ _ _ _ _ (by rw [hx]; rfl)) (holds_is 5 _ _ _ _ _ _ _ (by rw [hx]; rfl)) (holds_is 4 _ _ _ _ _ _ _ (by rw [hx]; rfl)) (holds_is 6 _ _ _ _ _ _ _ (by rw [hx]; rfl)) (holds_is 2 _ _ _ _ _ _ _ (by rw [hx]; rfl))

theorem order_at_0_0 (ka ia : Int) (sa : ByteArray) (kb ib : Int) (sb : ByteArray) (kc ic : Int) (sc : ByteArray) (w : World) (l1 : (sa.size : Int) ≤ 100000) (l2 : (sb.size : Int) ≤ 100000) (l3 : (sc.size : Int) ≤ 100000) (hx : cmpV ka ia sa kb ib sb = 0) (hy : cmpV kb ib sb kc ic sc = 0) (hz : cmpV ka ia sa kc ic sc = 0) :
    Calls Try.prog 7 #[vl ka ia sa, vl kb ib sb, vl kc ic sc] w fun x w' => x = .returned (.bool true) ∧ Below w.heap.size w w' := by
  have hBA := cmpV_anti ka ia sa kb ib sb
  rw [hx] at hBA
  by_cases ca : chk ka ia sa = 0
  · by_cases cb : chk kb ib sb = 0
    · obtain ⟨rfl, rfl, rfl⟩ := cmpV_same _ _ _ _ _ _ hx ca cb
      exact order_0_0_eq ka ia sa ka ia sa kc ic sc w l1 l2 l3 (cmp_is _ _ _ _ _ _ _ hx) (cmp_is _ _ _ _ _ _ _ hy) (cmp_is _ _ _ _ _ _ _ hz) (cmp_is _ _ _ _ _ _ _ hBA) (cmp_is _ _ _ _ _ _ _ (cmpV_self ka ia sa)) (check_is _ _ _ _ ca) (check_is _ _ _ _ cb) (holds_is 3 _ _ _ _ _ _ _ (by rw [hx]; rfl)) (holds_is 1 _ _ _ _ _ _ _ (by rw [hx]; rfl)) (holds_is 5 _ _ _ _ _ _ _ (by rw [hx]; rfl)) (holds_is 4 _ _ _ _ _ _ _ (by rw [hx]; rfl)) (holds_is 6 _ _ _ _ _ _ _ (by rw [hx]; rfl)) (holds_is 2 _ _ _ _ _ _ _ (by rw [hx]; rfl))
    · have cb2 : (chk kb ib sb == 0) = false := by simpa using cb
      exact order_0_0_nb ka ia sa kb ib sb kc ic sc w l1 l2 l3 _ cb2 (cmp_is _ _ _ _ _ _ _ hx) (cmp_is _ _ _ _ _ _ _ hy) (cmp_is _ _ _ _ _ _ _ hz) (cmp_is _ _ _ _ _ _ _ hBA) (cmp_is _ _ _ _ _ _ _ (cmpV_self ka ia sa)) (check_is _ _ _ _ ca) (check_is _ _ _ _ rfl) (holds_is 3 _ _ _ _ _ _ _ (by rw [hx]; rfl)) (holds_is 1 _ _ _ _ _ _ _ (by rw [hx]; rfl)) (holds_is 5 _ _ _ _ _ _ _ (by rw [hx]; rfl)) (holds_is 4 _ _ _ _ _ _ _ (by rw [hx]; rfl)) (holds_is 6 _ _ _ _ _ _ _ (by rw [hx]; rfl)) (holds_is 2 _ _ _ _ _ _ _ (by rw [hx]; rfl))
  · have ca2 : (chk ka ia sa == 0) = false := by simpa using ca
    exact order_0_0_na ka ia sa kb ib sb kc ic sc w l1 l2 l3 _ _ ca2 (cmp_is _ _ _ _ _ _ _ hx) (cmp_is _ _ _ _ _ _ _ hy) (cmp_is _ _ _ _ _ _ _ hz) (cmp_is _ _ _ _ _ _ _ hBA) (cmp_is _ _ _ _ _ _ _ (cmpV_self ka ia sa)) (check_is _ _ _ _ rfl) (check_is _ _ _ _ rfl) (holds_is 3 _ _ _ _ _ _ _ (by rw [hx]; rfl)) (holds_is 1 _ _ _ _ _ _ _ (by rw [hx]; rfl)) (holds_is 5 _ _ _ _ _ _ _ (by rw [hx]; rfl)) (holds_is 4 _ _ _ _ _ _ _ (by rw [hx]; rfl)) (holds_is 6 _ _ _ _ _ _ _ (by rw [hx]; rfl)) (holds_is 2 _ _ _ _ _ _ _ (by rw [hx]; rfl))

theorem order_at_0_1 (ka ia : Int) (sa : ByteArray) (kb ib : Int) (sb : ByteArray) (kc ic : Int) (sc : ByteArray) (w : World) (l1 : (sa.size : Int) ≤ 100000) (l2 : (sb.size : Int) ≤ 100000) (l3 : (sc.size : Int) ≤ 100000) (hx : cmpV ka ia sa kb ib sb = 0) (hy : cmpV kb ib sb kc ic sc = 1) :
    Calls Try.prog 7 #[vl ka ia sa, vl kb ib sb, vl kc ic sc] w fun x w' => x = .returned (.bool true) ∧ Below w.heap.size w w' := by
  have hBA := cmpV_anti ka ia sa kb ib sb
  rw [hx] at hBA
  by_cases ca : chk ka ia sa = 0
  · by_cases cb : chk kb ib sb = 0
    · obtain ⟨rfl, rfl, rfl⟩ := cmpV_same _ _ _ _ _ _ hx ca cb
      exact order_0_1_eq ka ia sa ka ia sa kc ic sc w l1 l2 l3 _ (cmp_is _ _ _ _ _ _ _ hx) (cmp_is _ _ _ _ _ _ _ hy) (cmp_is _ _ _ _ _ _ _ rfl) (cmp_is _ _ _ _ _ _ _ hBA) (cmp_is _ _ _ _ _ _ _ (cmpV_self ka ia sa)) (check_is _ _ _ _ ca) (check_is _ _ _ _ cb) (holds_is 3 _ _ _ _ _ _ _ (by rw [hx]; rfl)) (holds_is 1 _ _ _ _ _ _ _ (by rw [hx]; rfl)) (holds_is 5 _ _ _ _ _ _ _ (by rw [hx]; rfl)) (holds_is 4 _ _ _ _ _ _ _ (by rw [hx]; rfl)) (holds_is 6 _ _ _ _ _ _ _ (by rw [hx]; rfl)) (holds_is 2 _ _ _ _ _ _ _ (by rw [hx]; rfl))
    · have cb2 : (chk kb ib sb == 0) = false := by simpa using cb
      exact order_0_1_nb ka ia sa kb ib sb kc ic sc w l1 l2 l3 _ _ cb2 (cmp_is _ _ _ _ _ _ _ hx) (cmp_is _ _ _ _ _ _ _ hy) (cmp_is _ _ _ _ _ _ _ rfl) (cmp_is _ _ _ _ _ _ _ hBA) (cmp_is _ _ _ _ _ _ _ (cmpV_self ka ia sa)) (check_is _ _ _ _ ca) (check_is _ _ _ _ rfl) (holds_is 3 _ _ _ _ _ _ _ (by rw [hx]; rfl)) (holds_is 1 _ _ _ _ _ _ _ (by rw [hx]; rfl)) (holds_is 5 _ _ _ _ _ _ _ (by rw [hx]; rfl)) (holds_is 4 _ _ _ _ _ _ _ (by rw [hx]; rfl)) (holds_is 6 _ _ _ _ _ _ _ (by rw [hx]; rfl)) (holds_is 2 _ _ _ _ _ _ _ (by rw [hx]; rfl))
  · have ca2 : (chk ka ia sa == 0) = false := by simpa using ca
    exact order_0_1_na ka ia sa kb ib sb kc ic sc w l1 l2 l3 _ _ _ ca2 (cmp_is _ _ _ _ _ _ _ hx) (cmp_is _ _ _ _ _ _ _ hy) (cmp_is _ _ _ _ _ _ _ rfl) (cmp_is _ _ _ _ _ _ _ hBA) (cmp_is _ _ _ _ _ _ _ (cmpV_self ka ia sa)) (check_is _ _ _ _ rfl) (check_is _ _ _ _ rfl) (holds_is 3 _ _ _ _ _ _ _ (by rw [hx]; rfl)) (holds_is 1 _ _ _ _ _ _ _ (by rw [hx]; rfl)) (holds_is 5 _ _ _ _ _ _ _ (by rw [hx]; rfl)) (holds_is 4 _ _ _ _ _ _ _ (by rw [hx]; rfl)) (holds_is 6 _ _ _ _ _ _ _ (by rw [hx]; rfl)) (holds_is 2 _ _ _ _ _ _ _ (by rw [hx]; rfl))

theorem order_at_1_y (ka ia : Int) (sa : ByteArray) (kb ib : Int) (sb : ByteArray) (kc ic : Int) (sc : ByteArray) (w : World) (l1 : (sa.size : Int) ≤ 100000) (l2 : (sb.size : Int) ≤ 100000) (l3 : (sc.size : Int) ≤ 100000) (hx : cmpV ka ia sa kb ib sb = 1) :
    Calls Try.prog 7 #[vl ka ia sa, vl kb ib sb, vl kc ic sc] w fun x w' => x = .returned (.bool true) ∧ Below w.heap.size w w' := by
  have hBA := cmpV_anti ka ia sa kb ib sb
  rw [hx] at hBA
  by_cases ca : chk ka ia sa = 0
  · by_cases cb : chk kb ib sb = 0
    · by_cases ek : ka = kb
      · subst ek
        by_cases ei : ia = ib
        · subst ei
          have es : (sa.toList == sb.toList) = false := by
            rw [beq_eq_false_iff_ne]
            intro h
            have e := toList_inj h
            subst e
            rw [cmpV_self] at hx
            omega
          exact order_1_y_ds ka ia sa ka ia sb kc ic sc w l1 l2 l3 _ _ es (cmp_is _ _ _ _ _ _ _ hx) (cmp_is _ _ _ _ _ _ _ rfl) (cmp_is _ _ _ _ _ _ _ rfl) (cmp_is _ _ _ _ _ _ _ hBA) (cmp_is _ _ _ _ _ _ _ (cmpV_self ka ia sa)) (check_is _ _ _ _ ca) (check_is _ _ _ _ cb) (holds_is 3 _ _ _ _ _ _ _ (by rw [hx]; rfl)) (holds_is 1 _ _ _ _ _ _ _ (by rw [hx]; rfl)) (holds_is 5 _ _ _ _ _ _ _ (by rw [hx]; rfl)) (holds_is 4 _ _ _ _ _ _ _ (by rw [hx]; rfl)) (holds_is 6 _ _ _ _ _ _ _ (by rw [hx]; rfl)) (holds_is 2 _ _ _ _ _ _ _ (by rw [hx]; rfl))
        · have ei2 : (ia == ib) = false := by simpa using ei
          exact order_1_y_di ka ia sa ka ib sb kc ic sc w l1 l2 l3 _ _ ei2 (cmp_is _ _ _ _ _ _ _ hx) (cmp_is _ _ _ _ _ _ _ rfl) (cmp_is _ _ _ _ _ _ _ rfl) (cmp_is _ _ _ _ _ _ _ hBA) (cmp_is _ _ _ _ _ _ _ (cmpV_self ka ia sa)) (check_is _ _ _ _ ca) (check_is _ _ _ _ cb) (holds_is 3 _ _ _ _ _ _ _ (by rw [hx]; rfl)) (holds_is 1 _ _ _ _ _ _ _ (by rw [hx]; rfl)) (holds_is 5 _ _ _ _ _ _ _ (by rw [hx]; rfl)) (holds_is 4 _ _ _ _ _ _ _ (by rw [hx]; rfl)) (holds_is 6 _ _ _ _ _ _ _ (by rw [hx]; rfl)) (holds_is 2 _ _ _ _ _ _ _ (by rw [hx]; rfl))
      · have ek2 : (ka == kb) = false := by simpa using ek
        exact order_1_y_dk ka ia sa kb ib sb kc ic sc w l1 l2 l3 _ _ ek2 (cmp_is _ _ _ _ _ _ _ hx) (cmp_is _ _ _ _ _ _ _ rfl) (cmp_is _ _ _ _ _ _ _ rfl) (cmp_is _ _ _ _ _ _ _ hBA) (cmp_is _ _ _ _ _ _ _ (cmpV_self ka ia sa)) (check_is _ _ _ _ ca) (check_is _ _ _ _ cb) (holds_is 3 _ _ _ _ _ _ _ (by rw [hx]; rfl)) (holds_is 1 _ _ _ _ _ _ _ (by rw [hx]; rfl)) (holds_is 5 _ _ _ _ _ _ _ (by rw [hx]; rfl)) (holds_is 4 _ _ _ _ _ _ _ (by rw [hx]; rfl)) (holds_is 6 _ _ _ _ _ _ _ (by rw [hx]; rfl)) (holds_is 2 _ _ _ _ _ _ _ (by rw [hx]; rfl))
    · have cb2 : (chk kb ib sb == 0) = false := by simpa using cb
      exact order_1_y_nb ka ia sa kb ib sb kc ic sc w l1 l2 l3 _ _ _ cb2 (cmp_is _ _ _ _ _ _ _ hx) (cmp_is _ _ _ _ _ _ _ rfl) (cmp_is _ _ _ _ _ _ _ rfl) (cmp_is _ _ _ _ _ _ _ hBA) (cmp_is _ _ _ _ _ _ _ (cmpV_self ka ia sa)) (check_is _ _ _ _ ca) (check_is _ _ _ _ rfl) (holds_is 3 _ _ _ _ _ _ _ (by rw [hx]; rfl)) (holds_is 1 _ _ _ _ _ _ _ (by rw [hx]; rfl)) (holds_is 5 _ _ _ _ _ _ _ (by rw [hx]; rfl)) (holds_is 4 _ _ _ _ _ _ _ (by rw [hx]; rfl)) (holds_is 6 _ _ _ _ _ _ _ (by rw [hx]; rfl)) (holds_is 2 _ _ _ _ _ _ _ (by rw [hx]; rfl))
  · have ca2 : (chk ka ia sa == 0) = false := by simpa using ca
    exact order_1_y_na ka ia sa kb ib sb kc ic sc w l1 l2 l3 _ _ _ _ ca2 (cmp_is _ _ _ _ _ _ _ hx) (cmp_is _ _ _ _ _ _ _ rfl) (cmp_is _ _ _ _ _ _ _ rfl) (cmp_is _ _ _ _ _ _ _ hBA) (cmp_is _ _ _ _ _ _ _ (cmpV_self ka ia sa)) (check_is _ _ _ _ rfl) (check_is _ _ _ _ rfl) (holds_is 3 _ _ _ _ _ _ _ (by rw [hx]; rfl)) (holds_is 1 _ _ _ _ _ _ _ (by rw [hx]; rfl)) (holds_is 5 _ _ _ _ _ _ _ (by rw [hx]; rfl)) (holds_is 4 _ _ _ _ _ _ _ (by rw [hx]; rfl)) (holds_is 6 _ _ _ _ _ _ _ (by rw [hx]; rfl)) (holds_is 2 _ _ _ _ _ _ _ (by rw [hx]; rfl))

set_option maxRecDepth 100000 in
set_option maxHeartbeats 1600000 in
theorem order_any (ka ia : Int) (sa : ByteArray) (kb ib : Int) (sb : ByteArray) (kc ic : Int) (sc : ByteArray) (w : World) :
    Calls Try.prog 7 #[vl ka ia sa, vl kb ib sb, vl kc ic sc] w fun x w' => x = .returned (.bool true) ∧ Below w.heap.size w w' := by
  by_cases l1 : (sa.size : Int) ≤ 100000
  · by_cases l2 : (sb.size : Int) ≤ 100000
    · by_cases l3 : (sc.size : Int) ≤ 100000
      · have tr := cmpV_trans ka ia sa kb ib sb kc ic sc
        have vz := cmpV_vals ka ia sa kc ic sc
        have t2 : cmpV ka ia sa kb ib sb = 0 → cmpV kb ib sb kc ic sc = 0 → cmpV ka ia sa kc ic sc = 0 := by
          intro h1 h2
          have r := cmpV_trans kc ic sc kb ib sb ka ia sa (by rw [cmpV_anti]; omega) (by rw [cmpV_anti]; omega)
          have e := cmpV_anti ka ia sa kc ic sc
          have q := tr (by omega) (by omega)
          omega
        rcases cmpV_vals ka ia sa kb ib sb with hx | hx | hx
        · rcases cmpV_vals kb ib sb kc ic sc with hy | hy | hy
          · have q := tr (by omega) (by omega)
            exact order_at_m1_m1 ka ia sa kb ib sb kc ic sc w l1 l2 l3 hx hy (by have := q.2 (by omega); omega)
          · have q := tr (by omega) (by omega)
            exact order_at_m1_0 ka ia sa kb ib sb kc ic sc w l1 l2 l3 hx hy (by have := q.2 (by omega); omega)
          · exact order_at_m1_1 ka ia sa kb ib sb kc ic sc w l1 l2 l3 hx hy
        · rcases cmpV_vals kb ib sb kc ic sc with hy | hy | hy
          · have q := tr (by omega) (by omega)
            exact order_at_0_m1 ka ia sa kb ib sb kc ic sc w l1 l2 l3 hx hy (by have := q.2 (by omega); omega)
          · exact order_at_0_0 ka ia sa kb ib sb kc ic sc w l1 l2 l3 hx hy (t2 hx hy)
          · exact order_at_0_1 ka ia sa kb ib sb kc ic sc w l1 l2 l3 hx hy
        · exact order_at_1_y ka ia sa kb ib sb kc ic sc w l1 l2 l3 hx
      · have H0 := hid (three w (vo ka ia sa) (vo kb ib sb) (vo kc ic sc)).2.2.2
        go_enter Try.func7, Try.ntmps7
        go_wp2_with (go_at_call 9; refine (known_any _).mono ?_; rintro e w1 ⟨rfl, hb⟩)
        go_ret
        exact ⟨rfl, below_on H0.out hb⟩
    · have H0 := hid (three w (vo ka ia sa) (vo kb ib sb) (vo kc ic sc)).2.2.2
      go_enter Try.func7, Try.ntmps7
      go_wp2_with (go_at_call 9; refine (known_any _).mono ?_; rintro e w1 ⟨rfl, hb⟩)
      go_ret
      exact ⟨rfl, below_on H0.out hb⟩
  · have H0 := hid (three w (vo ka ia sa) (vo kb ib sb) (vo kc ic sc)).2.2.2
    go_enter Try.func7, Try.ntmps7
    go_wp2_with (go_at_call 9; refine (known_any _).mono ?_; rintro e w1 ⟨rfl, hb⟩)
    go_ret
    exact ⟨rfl, below_on H0.out hb⟩

end Go.Proofs.Ytiammlngbejhkaa
