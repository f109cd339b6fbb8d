import Derived.Test.YthcoigbkdbkojabGreatK18
import Derived.Shelf.Bits.Mul64
set_option maxRecDepth 100000
namespace Go.Proofs.YthcoigbkdbkojabGreat
open Go.RowKit Go.MapKept
open V (hp_new hp_lt hp_below hp_alloc kl)
section
variable {w w' : World} {B mb M : Nat} {s : Ms} {td : List Vd} {lk : List (ByteArray × ByteArray)} {l : KV} {kv : List (ByteArray × Value)} {p : Nat} {L : KV}
set_option maxHeartbeats 3200000 in
theorem opsum_none (x : Ins) (h : MX w B mb s td lk M kv) (a0 : 0 ≤ x.a) (a1 : x.a < 16) (b0 : 0 ≤ x.b) (b1 : x.b < 16) (c0 : 0 ≤ x.c) (c1 : x.c < 16) (hB : bErr (s.rg x.b) = 0) (hC : bErr (s.rg x.c) = 0) (h1 : bKey (s.rg x.c) ≠ emp) (h2 : kl (bKey (s.rg x.c)) (bKey (s.rg x.b)) = true) :
    Calls Tryz.prog 74 #[.pointer (some ⟨mb, 0, none⟩), x.val] w (Did B w mb s (s.set x.a ⟨1, 0, emp⟩) td lk M kv) := by
  have hth := fun (W : World) (hb : Below w.heap.size w W) (ev : Value) (hev : ev.oneCell' = true) => thr_none x ev (h.below hb) b0 b1 c0 c1 hB hC h1 h2 hev
  obtain ⟨op, a, b, c, n, vk, vi, vt⟩ := x
  dsimp only at a0 a1 hth ⊢
  obtain ⟨a, rfl⟩ := Int.eq_ofNat_of_zero_le a0
  have ha2 : a < 16 := by omega
  have hml := h.m.lt
  have hb3 : Below w.heap.size w (((w.alloc (.cells #[.pointer (some ⟨mb, 0, none⟩)] 73)).alloc (io op a b c n vk vi vt)).alloc (vo 1 0 emp)) := (three w (.cells #[.pointer (some ⟨mb, 0, none⟩)] 73) (io op a b c n vk vi vt) (vo 1 0 emp)).2.2.2
  have HTH := hid (hth _ hb3 (.func (.func 102) #[] #[.pointer (some ⟨w.heap.size + 1 + 1, 0, none⟩), .pointer (some ⟨w.heap.size, 0, none⟩)]) rfl)
  have hmf : ∀ (fn : Fn) (first cap : Array Value) (w : World), (Instr.makeFunc fn first cap).run Tryz.prog w = .ok (.func fn first cap) w := fun _ _ _ _ => rfl
  have HZ := hid (And.intro h (And.intro hb3 (And.intro ((three w (.cells #[.pointer (some ⟨mb, 0, none⟩)] 73) (io op a b c n vk vi vt) (vo 1 0 emp)).2.1) ((three w (.cells #[.pointer (some ⟨mb, 0, none⟩)] 73) (io op a b c n vk vi vt) (vo 1 0 emp)).2.2.1))))
  have HMM := hid ((three w (.cells #[.pointer (some ⟨mb, 0, none⟩)] 73) (io op a b c n vk vi vt) (vo 1 0 emp)).1)
  clear hth hb3 h
  unfold Ins.val at HTH ⊢
  dsimp only at HTH ⊢
  go_enter Tryz.func74, Tryz.ntmps74
  go_wp2_with (
    go_at_call 101
    refine HTH.out.mono ?_
    rintro e w1 ⟨rfl, hb1⟩
    have hbw := below_on HZ.out.2.1 hb1
    have y2 := hp_below HZ.out.2.2.1 hb1 (hp_lt HZ.out.2.2.1)
    have y3 := hp_below HZ.out.2.2.2 hb1 (hp_lt HZ.out.2.2.2)
    have y1 := hp_below HMM.out hb1 (hp_lt HMM.out)
    have q3 := V.cells1 y1
    have lt2 := hp_lt y1
    clear y1
    obtain ⟨q0, q1, q2⟩ := V.cells3 y3
    obtain ⟨-, i1, -⟩ := cells8 y2
    have hx1 := HZ.out.1.below hbw
    obtain ⟨r0, r1, r2⟩ := hx1.m.reg a a0 a1
    rw [Int.toNat_natCast] at r0 r1 r2
    have hfz := hx1.m.free
    have hml1 := hx1.m.lt
    have lt1 := hp_lt y3
    have lt3 := hp_lt y2
    have H1 := hid (And.intro hx1 hbw)
    clear hx1 hbw hb1 y2 y3)
  go_region
  all_goals
    go_end0
    obtain ⟨-, d2, d3⟩ := did_set0 H1.out.1 a ha2 ⟨1, 0, emp⟩
    exact ⟨rfl, d2, (bsx H1.out.2).trans d3 (fun _ _ e => e)⟩
set_option maxHeartbeats 3200000 in
theorem opsum_nb (x : Ins) (h : MX w B mb s td lk M kv) (a0 : 0 ≤ x.a) (a1 : x.a < 16) (b0 : 0 ≤ x.b) (b1 : x.b < 16) (hB : bErr (s.rg x.b) ≠ 0) :
    Calls Tryz.prog 74 #[.pointer (some ⟨mb, 0, none⟩), x.val] w (Gave B w mb s td lk M kv (stE (bErr (s.rg x.b)))) := by
  have hth := fun (W : World) (hb : Below w.heap.size w W) (ev : Value) (hev : ev.oneCell' = true) => thr_nb x ev (h.below hb) b0 b1 hB hev
  obtain ⟨op, a, b, c, n, vk, vi, vt⟩ := x
  dsimp only at a0 a1 hth ⊢
  obtain ⟨a, rfl⟩ := Int.eq_ofNat_of_zero_le a0
  have ha2 : a < 16 := by omega
  have hml := h.m.lt
  have hb3 : Below w.heap.size w (((w.alloc (.cells #[.pointer (some ⟨mb, 0, none⟩)] 73)).alloc (io op a b c n vk vi vt)).alloc (vo 1 0 emp)) := (three w (.cells #[.pointer (some ⟨mb, 0, none⟩)] 73) (io op a b c n vk vi vt) (vo 1 0 emp)).2.2.2
  have HTH := hid (hth _ hb3 (.func (.func 102) #[] #[.pointer (some ⟨w.heap.size + 1 + 1, 0, none⟩), .pointer (some ⟨w.heap.size, 0, none⟩)]) rfl)
  have hmf : ∀ (fn : Fn) (first cap : Array Value) (w : World), (Instr.makeFunc fn first cap).run Tryz.prog w = .ok (.func fn first cap) w := fun _ _ _ _ => rfl
  have HZ := hid (And.intro h (And.intro hb3 (And.intro ((three w (.cells #[.pointer (some ⟨mb, 0, none⟩)] 73) (io op a b c n vk vi vt) (vo 1 0 emp)).2.1) ((three w (.cells #[.pointer (some ⟨mb, 0, none⟩)] 73) (io op a b c n vk vi vt) (vo 1 0 emp)).2.2.1))))
  have HMM := hid ((three w (.cells #[.pointer (some ⟨mb, 0, none⟩)] 73) (io op a b c n vk vi vt) (vo 1 0 emp)).1)
  clear hth hb3 h
  unfold Ins.val at HTH ⊢
  dsimp only at HTH ⊢
  generalize bErr _ = er at *
  go_enter Tryz.func74, Tryz.ntmps74
  go_wp2_with (
    go_at_call 101
    refine HTH.out.mono ?_
    rintro e w1 ⟨rfl, hb1⟩
    have H1 := hid (below_on HZ.out.2.1 hb1)
    clear hb1)
  exact ⟨rfl, rfl, HZ.out.1.below H1.out, bsx H1.out⟩
set_option maxHeartbeats 3200000 in
theorem opsum_nc (x : Ins) (h : MX w B mb s td lk M kv) (a0 : 0 ≤ x.a) (a1 : x.a < 16) (b0 : 0 ≤ x.b) (b1 : x.b < 16) (c0 : 0 ≤ x.c) (c1 : x.c < 16) (hB : bErr (s.rg x.b) = 0) (hC : bErr (s.rg x.c) ≠ 0) :
    Calls Tryz.prog 74 #[.pointer (some ⟨mb, 0, none⟩), x.val] w (Gave B w mb s td lk M kv (stE (bErr (s.rg x.c)))) := by
  have hth := fun (W : World) (hb : Below w.heap.size w W) (ev : Value) (hev : ev.oneCell' = true) => thr_nc x ev (h.below hb) b0 b1 c0 c1 hB hC hev
  obtain ⟨op, a, b, c, n, vk, vi, vt⟩ := x
  dsimp only at a0 a1 hth ⊢
  obtain ⟨a, rfl⟩ := Int.eq_ofNat_of_zero_le a0
  have ha2 : a < 16 := by omega
  have hml := h.m.lt
  have hb3 : Below w.heap.size w (((w.alloc (.cells #[.pointer (some ⟨mb, 0, none⟩)] 73)).alloc (io op a b c n vk vi vt)).alloc (vo 1 0 emp)) := (three w (.cells #[.pointer (some ⟨mb, 0, none⟩)] 73) (io op a b c n vk vi vt) (vo 1 0 emp)).2.2.2
  have HTH := hid (hth _ hb3 (.func (.func 102) #[] #[.pointer (some ⟨w.heap.size + 1 + 1, 0, none⟩), .pointer (some ⟨w.heap.size, 0, none⟩)]) rfl)
  have hmf : ∀ (fn : Fn) (first cap : Array Value) (w : World), (Instr.makeFunc fn first cap).run Tryz.prog w = .ok (.func fn first cap) w := fun _ _ _ _ => rfl
  have HZ := hid (And.intro h (And.intro hb3 (And.intro ((three w (.cells #[.pointer (some ⟨mb, 0, none⟩)] 73) (io op a b c n vk vi vt) (vo 1 0 emp)).2.1) ((three w (.cells #[.pointer (some ⟨mb, 0, none⟩)] 73) (io op a b c n vk vi vt) (vo 1 0 emp)).2.2.1))))
  have HMM := hid ((three w (.cells #[.pointer (some ⟨mb, 0, none⟩)] 73) (io op a b c n vk vi vt) (vo 1 0 emp)).1)
  clear hth hb3 h
  unfold Ins.val at HTH ⊢
  dsimp only at HTH ⊢
  generalize bErr _ = er at *
  go_enter Tryz.func74, Tryz.ntmps74
  go_wp2_with (
    go_at_call 101
    refine HTH.out.mono ?_
    rintro e w1 ⟨rfl, hb1⟩
    have H1 := hid (below_on HZ.out.2.1 hb1)
    clear hb1)
  exact ⟨rfl, rfl, HZ.out.1.below H1.out, bsx H1.out⟩
set_option maxHeartbeats 3200000 in
theorem opcount_none (x : Ins) (h : MX w B mb s td lk M kv) (a0 : 0 ≤ x.a) (a1 : x.a < 16) (b0 : 0 ≤ x.b) (b1 : x.b < 16) (c0 : 0 ≤ x.c) (c1 : x.c < 16) (hB : bErr (s.rg x.b) = 0) (hC : bErr (s.rg x.c) = 0) (h1 : bKey (s.rg x.c) ≠ emp) (h2 : kl (bKey (s.rg x.c)) (bKey (s.rg x.b)) = true) :
    Calls Tryz.prog 75 #[.pointer (some ⟨mb, 0, none⟩), x.val] w (Did B w mb s (s.set x.a ⟨1, 0, emp⟩) td lk M kv) := by
  have hth := fun (W : World) (hb : Below w.heap.size w W) (ev : Value) (hev : ev.oneCell' = true) => thr_none x ev (h.below hb) b0 b1 c0 c1 hB hC h1 h2 hev
  obtain ⟨op, a, b, c, n, vk, vi, vt⟩ := x
  dsimp only at a0 a1 hth ⊢
  obtain ⟨a, rfl⟩ := Int.eq_ofNat_of_zero_le a0
  have ha2 : a < 16 := by omega
  have hml := h.m.lt
  have hb3 : Below w.heap.size w ((w.alloc (io op a b c n vk vi vt)).alloc (vo 1 0 emp)) := below2 w (io op a b c n vk vi vt) (vo 1 0 emp)
  have HTH := hid (hth _ hb3 (.func (.func 103) #[] #[.pointer (some ⟨w.heap.size + 1, 0, none⟩)]) rfl)
  have hmf : ∀ (fn : Fn) (first cap : Array Value) (w : World), (Instr.makeFunc fn first cap).run Tryz.prog w = .ok (.func fn first cap) w := fun _ _ _ _ => rfl
  have HZ := hid (And.intro h (And.intro hb3 (And.intro (two1 w (io op a b c n vk vi vt) (vo 1 0 emp)) (two2 w (io op a b c n vk vi vt) (vo 1 0 emp)))))
  clear hth hb3 h
  unfold Ins.val at HTH ⊢
  dsimp only at HTH ⊢
  go_enter Tryz.func75, Tryz.ntmps75
  go_wp2_with (
    go_at_call 101
    refine HTH.out.mono ?_
    rintro e w1 ⟨rfl, hb1⟩
    have hbw := below_on HZ.out.2.1 hb1
    have y2 := hp_below HZ.out.2.2.1 hb1 (hp_lt HZ.out.2.2.1)
    have y3 := hp_below HZ.out.2.2.2 hb1 (hp_lt HZ.out.2.2.2)
    obtain ⟨q0, q1, q2⟩ := V.cells3 y3
    obtain ⟨-, i1, -⟩ := cells8 y2
    have hx1 := HZ.out.1.below hbw
    obtain ⟨r0, r1, r2⟩ := hx1.m.reg a a0 a1
    rw [Int.toNat_natCast] at r0 r1 r2
    have hfz := hx1.m.free
    have hml1 := hx1.m.lt
    have lt1 := hp_lt y3
    have lt3 := hp_lt y2
    have H1 := hid (And.intro hx1 hbw)
    clear hx1 hbw hb1 y2 y3)
  go_region
  all_goals
    go_end0
    obtain ⟨-, d2, d3⟩ := did_set0 H1.out.1 a ha2 ⟨1, 0, emp⟩
    exact ⟨rfl, d2, (bsx H1.out.2).trans d3 (fun _ _ e => e)⟩
set_option maxHeartbeats 3200000 in
theorem opcount_nb (x : Ins) (h : MX w B mb s td lk M kv) (a0 : 0 ≤ x.a) (a1 : x.a < 16) (b0 : 0 ≤ x.b) (b1 : x.b < 16) (hB : bErr (s.rg x.b) ≠ 0) :
    Calls Tryz.prog 75 #[.pointer (some ⟨mb, 0, none⟩), x.val] w (Gave B w mb s td lk M kv (stE (bErr (s.rg x.b)))) := by
  have hth := fun (W : World) (hb : Below w.heap.size w W) (ev : Value) (hev : ev.oneCell' = true) => thr_nb x ev (h.below hb) b0 b1 hB hev
  obtain ⟨op, a, b, c, n, vk, vi, vt⟩ := x
  dsimp only at a0 a1 hth ⊢
  obtain ⟨a, rfl⟩ := Int.eq_ofNat_of_zero_le a0
  have ha2 : a < 16 := by omega
  have hml := h.m.lt
  have hb3 : Below w.heap.size w ((w.alloc (io op a b c n vk vi vt)).alloc (vo 1 0 emp)) := below2 w (io op a b c n vk vi vt) (vo 1 0 emp)
  have HTH := hid (hth _ hb3 (.func (.func 103) #[] #[.pointer (some ⟨w.heap.size + 1, 0, none⟩)]) rfl)
  have hmf : ∀ (fn : Fn) (first cap : Array Value) (w : World), (Instr.makeFunc fn first cap).run Tryz.prog w = .ok (.func fn first cap) w := fun _ _ _ _ => rfl
  have HZ := hid (And.intro h (And.intro hb3 (And.intro (two1 w (io op a b c n vk vi vt) (vo 1 0 emp)) (two2 w (io op a b c n vk vi vt) (vo 1 0 emp)))))
  clear hth hb3 h
  unfold Ins.val at HTH ⊢
  dsimp only at HTH ⊢
  generalize bErr _ = er at *
  go_enter Tryz.func75, Tryz.ntmps75
  go_wp2_with (
    go_at_call 101
    refine HTH.out.mono ?_
    rintro e w1 ⟨rfl, hb1⟩
    have H1 := hid (below_on HZ.out.2.1 hb1)
    clear hb1)
  exact ⟨rfl, rfl, HZ.out.1.below H1.out, bsx H1.out⟩
set_option maxHeartbeats 3200000 in
theorem opcount_nc (x : Ins) (h : MX w B mb s td lk M kv) (a0 : 0 ≤ x.a) (a1 : x.a < 16) (b0 : 0 ≤ x.b) (b1 : x.b < 16) (c0 : 0 ≤ x.c) (c1 : x.c < 16) (hB : bErr (s.rg x.b) = 0) (hC : bErr (s.rg x.c) ≠ 0) :
    Calls Tryz.prog 75 #[.pointer (some ⟨mb, 0, none⟩), x.val] w (Gave B w mb s td lk M kv (stE (bErr (s.rg x.c)))) := by
  have hth := fun (W : World) (hb : Below w.heap.size w W) (ev : Value) (hev : ev.oneCell' = true) => thr_nc x ev (h.below hb) b0 b1 c0 c1 hB hC hev
  obtain ⟨op, a, b, c, n, vk, vi, vt⟩ := x
  dsimp only at a0 a1 hth ⊢
  obtain ⟨a, rfl⟩ := Int.eq_ofNat_of_zero_le a0
  have ha2 : a < 16 := by omega
  have hml := h.m.lt
  have hb3 : Below w.heap.size w ((w.alloc (io op a b c n vk vi vt)).alloc (vo 1 0 emp)) := below2 w (io op a b c n vk vi vt) (vo 1 0 emp)
  have HTH := hid (hth _ hb3 (.func (.func 103) #[] #[.pointer (some ⟨w.heap.size + 1, 0, none⟩)]) rfl)
  have hmf : ∀ (fn : Fn) (first cap : Array Value) (w : World), (Instr.makeFunc fn first cap).run Tryz.prog w = .ok (.func fn first cap) w := fun _ _ _ _ => rfl
  have HZ := hid (And.intro h (And.intro hb3 (And.intro (two1 w (io op a b c n vk vi vt) (vo 1 0 emp)) (two2 w (io op a b c n vk vi vt) (vo 1 0 emp)))))
  clear hth hb3 h
  unfold Ins.val at HTH ⊢
  dsimp only at HTH ⊢
  generalize bErr _ = er at *
  go_enter Tryz.func75, Tryz.ntmps75
  go_wp2_with (
    go_at_call 101
    refine HTH.out.mono ?_
    rintro e w1 ⟨rfl, hb1⟩
    have H1 := hid (below_on HZ.out.2.1 hb1)
    clear hb1)
  exact ⟨rfl, rfl, HZ.out.1.below H1.out, bsx H1.out⟩
theorem set_set (s : Ms) (r : Int) (v v' : Vd) : (s.set r v).set r v' = s.set r v' := by
  unfold Ms.set
  congr 1
  funext q
  by_cases e : q = r
  · simp [e]
  · simp [e]
def nfrom (ab : ByteArray) : ByteArray := if ab = emp then emp else V.bhd ab
noncomputable def nextV (L l : KV) (rb : Vd) : Vd := if abv L l emp (bKey rb) = emp then z0 else ⟨2, 0, abv L l emp (bKey rb)⟩
set_option maxHeartbeats 3200000 in
theorem opnext_00 (x : Ins) (ab key : ByteArray) (h : MV w B mb s td lk M l p L) (a0 : 0 ≤ x.a) (a1 : x.a < 16) (b0 : 0 ≤ x.b) (b1 : x.b < 16) (hB : bErr (s.rg x.b) = 0) (hab : bKey (s.rg x.b) = ab) (hkey : abv L l emp ab = key) (hne : ab = emp) (hkk : key = emp) (hl : lk.length ≤ 999) :
    Calls Tryz.prog 76 #[.pointer (some ⟨mb, 0, none⟩), x.val] w (Dup B w mb s (fun v' => ({ s with lv := v' } : Ms).set x.a z0) td (lk ++ [(emp, key)]) M l) := by
  have hsz := bKey_size hB
  have hks : key.size ≤ 64 := by
    rcases abv_key h.ok h.kk emp ab with e | e
    · rw [← hkey, e]; exact Nat.zero_le _
    · rw [← hkey]; exact (isKey_size e).2
  rw [hab] at hsz
  obtain ⟨op, a, b, c, n, vk, vi, vt⟩ := x
  dsimp only at a0 a1 b0 b1 hB hab ⊢
  obtain ⟨a, rfl⟩ := Int.eq_ofNat_of_zero_le a0
  have ha2 : a < 16 := by omega
  have hml := h.m.m.lt
  have hb0 : Below w.heap.size w (w.alloc (io op a b c n vk vi vt)) := below1 w _
  have hbd := bd_ok b (h.below hb0).m b0 b1 hB
  rw [hab] at hbd
  have HBD := hid hbd
  have hnew := hp_new w (io op a b c n vk vi vt)
  have HAB := hid (fun W (hb : Below w.heap.size w W) => show Calls Tryz.prog 105 #[.pointer (some ⟨mb, 0, none⟩), .string ab, .string emp] W fun e w' => e = .returned (.string key) ∧ Below W.heap.size W w' from by rw [← hkey]; exact (h.below hb).above ab emp (by omega))
  have HLK := hid (fun W (hb : Below w.heap.size w W) => look_m (emp) key (h.below hb).m (by omega) (by show 0 ≤ _; omega) (by omega))
  have HX := hid (And.intro h (And.intro hb0 hnew))
  have e1 := V.emp_eq hne
  have e2 := V.emp_eq hkk
  have hbs : (ab ++ (⟨#[0]⟩ : ByteArray)).size = ab.size + 1 := V.bhd_size ab
  clear h hB hab hkey hbd hb0 hnew hks hne hkk
  unfold Ins.val
  dsimp only
  go_enter Tryz.func76, Tryz.ntmps76
  go_wp2_with (first
    | (go_at_call 104
       refine HBD.out.mono ?_
       rintro e w1 ⟨rfl, hb1⟩
       have H1 := hid (And.intro (below_on HX.out.2.1 hb1) (hp_below HX.out.2.2 hb1 (hp_lt HX.out.2.2)))
       clear hb1)
    | (go_at_call 105
       refine (HAB.out _ H1.out.1).mono ?_
       rintro e w2 ⟨rfl, hb2⟩
       have H2 := hid (And.intro (below_on H1.out.1 hb2) (hp_below H1.out.2 hb2 (hp_lt H1.out.2)))
       clear hb2)
    | (go_at_call 92
       refine (HLK.out _ H2.out.1).mono ?_
       rintro e w3 ⟨rfl, ⟨v', hx3⟩, hb3, hk3⟩
       have y2 := hpk H2.out.2 hk3 (fun e => by
         rcases e with e | e
         · omega
         · have := (HX.out.1.m.lk.lt _ e).2; omega)
       obtain ⟨-, i1, -⟩ := cells8 y2
       obtain ⟨r0, r1, r2⟩ := hx3.m.reg a a0 a1
       rw [Int.toNat_natCast] at r0 r1 r2
       have hfz := hx3.m.free
       have hml3 := hx3.m.lt
       have lt3 := hp_lt y2
       have H3 := hid (And.intro hx3 (And.intro ((bsx (s := s) (mb := mb) (M := M) H2.out.1).trans hk3 (fun j _ e => e.elim .inl (fun e => .inr (.inr (.inr e))))) y2))
       clear hx3 hb3 hk3 y2))
  go_region
  all_goals
    obtain ⟨W4, hW4, d2, d3⟩ := did_set1 H3.out.1 a ha2 z0
    rw [show (((w3.setCell ⟨mb, 3 + a * 3, none⟩ (.int .i64 0)).setCell ⟨mb, 3 + a * 3 + 1, none⟩ (.int .i64 0)).setCell ⟨mb, 3 + a * 3 + 2, none⟩ (.string ⟨#[]⟩)) = W4 from hW4.symm]
    have y4 := hpk H3.out.2.2 d3 (fun e => by omega)
    obtain ⟨-, i4, -⟩ := cells8 y4
    replace i4 := (show W4.drew.cell? ⟨w.heap.size, 1, none⟩ = some (.int .i64 a) from i4)
    have H4 := hid (And.intro (d2.below ((Below.refl _ W4).drew)) ((H3.out.2.1.trans d3 (fun _ _ e => .inl e)).drew))
    clear hW4 d2 d3 y4 r0 r1 r2 i1 hfz
    generalize W4.drew = W5 at *
    go_wp2
    go_end0
    exact ⟨rfl, ⟨v', H4.out.1⟩, H4.out.2⟩
set_option maxHeartbeats 3200000 in
theorem opnext_01 (x : Ins) (ab key : ByteArray) (h : MV w B mb s td lk M l p L) (a0 : 0 ≤ x.a) (a1 : x.a < 16) (b0 : 0 ≤ x.b) (b1 : x.b < 16) (hB : bErr (s.rg x.b) = 0) (hab : bKey (s.rg x.b) = ab) (hkey : abv L l emp ab = key) (hne : ab = emp) (hkk : key ≠ emp) (hl : lk.length ≤ 999) :
    Calls Tryz.prog 76 #[.pointer (some ⟨mb, 0, none⟩), x.val] w (Dup B w mb s (fun v' => ({ s with lv := v' } : Ms).set x.a ⟨2, 0, key⟩) td (lk ++ [(emp, key)]) M l) := by
  have hsz := bKey_size hB
  have hks : key.size ≤ 64 := by
    rcases abv_key h.ok h.kk emp ab with e | e
    · rw [← hkey, e]; exact Nat.zero_le _
    · rw [← hkey]; exact (isKey_size e).2
  rw [hab] at hsz
  obtain ⟨op, a, b, c, n, vk, vi, vt⟩ := x
  dsimp only at a0 a1 b0 b1 hB hab ⊢
  obtain ⟨a, rfl⟩ := Int.eq_ofNat_of_zero_le a0
  have ha2 : a < 16 := by omega
  have hml := h.m.m.lt
  have hb0 : Below w.heap.size w (w.alloc (io op a b c n vk vi vt)) := below1 w _
  have hbd := bd_ok b (h.below hb0).m b0 b1 hB
  rw [hab] at hbd
  have HBD := hid hbd
  have hnew := hp_new w (io op a b c n vk vi vt)
  have HAB := hid (fun W (hb : Below w.heap.size w W) => show Calls Tryz.prog 105 #[.pointer (some ⟨mb, 0, none⟩), .string ab, .string emp] W fun e w' => e = .returned (.string key) ∧ Below W.heap.size W w' from by rw [← hkey]; exact (h.below hb).above ab emp (by omega))
  have HLK := hid (fun W (hb : Below w.heap.size w W) => look_m (emp) key (h.below hb).m (by omega) (by show 0 ≤ _; omega) (by omega))
  have HX := hid (And.intro h (And.intro hb0 hnew))
  have e1 := V.emp_eq hne
  have e2 := V.emp_ne hkk
  have hbs : (ab ++ (⟨#[0]⟩ : ByteArray)).size = ab.size + 1 := V.bhd_size ab
  clear h hB hab hkey hbd hb0 hnew hks hne hkk
  unfold Ins.val
  dsimp only
  go_enter Tryz.func76, Tryz.ntmps76
  go_wp2_with (first
    | (go_at_call 104
       refine HBD.out.mono ?_
       rintro e w1 ⟨rfl, hb1⟩
       have H1 := hid (And.intro (below_on HX.out.2.1 hb1) (hp_below HX.out.2.2 hb1 (hp_lt HX.out.2.2)))
       clear hb1)
    | (go_at_call 105
       refine (HAB.out _ H1.out.1).mono ?_
       rintro e w2 ⟨rfl, hb2⟩
       have H2 := hid (And.intro (below_on H1.out.1 hb2) (hp_below H1.out.2 hb2 (hp_lt H1.out.2)))
       clear hb2)
    | (go_at_call 92
       refine (HLK.out _ H2.out.1).mono ?_
       rintro e w3 ⟨rfl, ⟨v', hx3⟩, hb3, hk3⟩
       have y2 := hpk H2.out.2 hk3 (fun e => by
         rcases e with e | e
         · omega
         · have := (HX.out.1.m.lk.lt _ e).2; omega)
       obtain ⟨-, i1, -⟩ := cells8 y2
       obtain ⟨r0, r1, r2⟩ := hx3.m.reg a a0 a1
       rw [Int.toNat_natCast] at r0 r1 r2
       have hfz := hx3.m.free
       have hml3 := hx3.m.lt
       have lt3 := hp_lt y2
       have H3 := hid (And.intro hx3 (And.intro ((bsx (s := s) (mb := mb) (M := M) H2.out.1).trans hk3 (fun j _ e => e.elim .inl (fun e => .inr (.inr (.inr e))))) y2))
       clear hx3 hb3 hk3 y2))
  go_region
  all_goals
    obtain ⟨W4, hW4, d2, d3⟩ := did_set1 H3.out.1 a ha2 z0
    rw [show (((w3.setCell ⟨mb, 3 + a * 3, none⟩ (.int .i64 0)).setCell ⟨mb, 3 + a * 3 + 1, none⟩ (.int .i64 0)).setCell ⟨mb, 3 + a * 3 + 2, none⟩ (.string ⟨#[]⟩)) = W4 from hW4.symm]
    have y4 := hpk H3.out.2.2 d3 (fun e => by omega)
    obtain ⟨-, i4, -⟩ := cells8 y4
    replace i4 := (show W4.drew.cell? ⟨w.heap.size, 1, none⟩ = some (.int .i64 a) from i4)
    have H4 := hid (And.intro (d2.below ((Below.refl _ W4).drew)) ((H3.out.2.1.trans d3 (fun _ _ e => .inl e)).drew))
    clear hW4 d2 d3 y4 r0 r1 r2 i1 hfz
    generalize W4.drew = W5 at *
    obtain ⟨r0, r1, r2⟩ := H4.out.1.m.reg a a0 a1
    rw [Int.toNat_natCast] at r0 r1 r2
    have hfz := H4.out.1.m.free
    have hml4 := H4.out.1.m.lt
    have lt5 := World.block_lt_of_cell? _ _ i4
    dsimp only at lt5
    go_wp2_with fail
    go_region
    all_goals
      go_end0
      obtain ⟨W6, rfl, d2, d3⟩ := did_set1 H4.out.1 a ha2 ⟨2, 0, key⟩
      rw [set_set] at d2
      exact ⟨rfl, ⟨v', d2.below ((Below.refl _ _).drew)⟩, (H4.out.2.trans d3 (fun _ _ e => .inl e)).drew⟩
set_option maxHeartbeats 3200000 in
theorem opnext_10 (x : Ins) (ab key : ByteArray) (h : MV w B mb s td lk M l p L) (a0 : 0 ≤ x.a) (a1 : x.a < 16) (b0 : 0 ≤ x.b) (b1 : x.b < 16) (hB : bErr (s.rg x.b) = 0) (hab : bKey (s.rg x.b) = ab) (hkey : abv L l emp ab = key) (hne : ab ≠ emp) (hkk : key = emp) (hl : lk.length ≤ 999) :
    Calls Tryz.prog 76 #[.pointer (some ⟨mb, 0, none⟩), x.val] w (Dup B w mb s (fun v' => ({ s with lv := v' } : Ms).set x.a z0) td (lk ++ [(V.bhd ab, key)]) M l) := by
  have hsz := bKey_size hB
  have hks : key.size ≤ 64 := by
    rcases abv_key h.ok h.kk emp ab with e | e
    · rw [← hkey, e]; exact Nat.zero_le _
    · rw [← hkey]; exact (isKey_size e).2
  rw [hab] at hsz
  obtain ⟨op, a, b, c, n, vk, vi, vt⟩ := x
  dsimp only at a0 a1 b0 b1 hB hab ⊢
  obtain ⟨a, rfl⟩ := Int.eq_ofNat_of_zero_le a0
  have ha2 : a < 16 := by omega
  have hml := h.m.m.lt
  have hb0 : Below w.heap.size w (w.alloc (io op a b c n vk vi vt)) := below1 w _
  have hbd := bd_ok b (h.below hb0).m b0 b1 hB
  rw [hab] at hbd
  have HBD := hid hbd
  have hnew := hp_new w (io op a b c n vk vi vt)
  have HAB := hid (fun W (hb : Below w.heap.size w W) => show Calls Tryz.prog 105 #[.pointer (some ⟨mb, 0, none⟩), .string ab, .string emp] W fun e w' => e = .returned (.string key) ∧ Below W.heap.size W w' from by rw [← hkey]; exact (h.below hb).above ab emp (by omega))
  have HLK := hid (fun W (hb : Below w.heap.size w W) => look_m (V.bhd ab) key (h.below hb).m (by omega) (by rw [V.bhd_size]; omega) (by omega))
  have HX := hid (And.intro h (And.intro hb0 hnew))
  have e1 := V.emp_ne hne
  have e2 := V.emp_eq hkk
  have hbs : (ab ++ (⟨#[0]⟩ : ByteArray)).size = ab.size + 1 := V.bhd_size ab
  clear h hB hab hkey hbd hb0 hnew hks hne hkk
  unfold Ins.val
  dsimp only
  go_enter Tryz.func76, Tryz.ntmps76
  go_wp2_with (first
    | (go_at_call 104
       refine HBD.out.mono ?_
       rintro e w1 ⟨rfl, hb1⟩
       have H1 := hid (And.intro (below_on HX.out.2.1 hb1) (hp_below HX.out.2.2 hb1 (hp_lt HX.out.2.2)))
       clear hb1)
    | (go_at_call 105
       refine (HAB.out _ H1.out.1).mono ?_
       rintro e w2 ⟨rfl, hb2⟩
       have H2 := hid (And.intro (below_on H1.out.1 hb2) (hp_below H1.out.2 hb2 (hp_lt H1.out.2)))
       clear hb2)
    | (go_at_call 92
       refine (HLK.out _ H2.out.1).mono ?_
       rintro e w3 ⟨rfl, ⟨v', hx3⟩, hb3, hk3⟩
       have y2 := hpk H2.out.2 hk3 (fun e => by
         rcases e with e | e
         · omega
         · have := (HX.out.1.m.lk.lt _ e).2; omega)
       obtain ⟨-, i1, -⟩ := cells8 y2
       obtain ⟨r0, r1, r2⟩ := hx3.m.reg a a0 a1
       rw [Int.toNat_natCast] at r0 r1 r2
       have hfz := hx3.m.free
       have hml3 := hx3.m.lt
       have lt3 := hp_lt y2
       have H3 := hid (And.intro hx3 (And.intro ((bsx (s := s) (mb := mb) (M := M) H2.out.1).trans hk3 (fun j _ e => e.elim .inl (fun e => .inr (.inr (.inr e))))) y2))
       clear hx3 hb3 hk3 y2))
  go_region
  all_goals
    obtain ⟨W4, hW4, d2, d3⟩ := did_set1 H3.out.1 a ha2 z0
    rw [show (((w3.setCell ⟨mb, 3 + a * 3, none⟩ (.int .i64 0)).setCell ⟨mb, 3 + a * 3 + 1, none⟩ (.int .i64 0)).setCell ⟨mb, 3 + a * 3 + 2, none⟩ (.string ⟨#[]⟩)) = W4 from hW4.symm]
    have y4 := hpk H3.out.2.2 d3 (fun e => by omega)
    obtain ⟨-, i4, -⟩ := cells8 y4
    replace i4 := (show W4.drew.cell? ⟨w.heap.size, 1, none⟩ = some (.int .i64 a) from i4)
    have H4 := hid (And.intro (d2.below ((Below.refl _ W4).drew)) ((H3.out.2.1.trans d3 (fun _ _ e => .inl e)).drew))
    clear hW4 d2 d3 y4 r0 r1 r2 i1 hfz
    generalize W4.drew = W5 at *
    go_wp2
    go_end0
    exact ⟨rfl, ⟨v', H4.out.1⟩, H4.out.2⟩
set_option maxHeartbeats 3200000 in
theorem opnext_11 (x : Ins) (ab key : ByteArray) (h : MV w B mb s td lk M l p L) (a0 : 0 ≤ x.a) (a1 : x.a < 16) (b0 : 0 ≤ x.b) (b1 : x.b < 16) (hB : bErr (s.rg x.b) = 0) (hab : bKey (s.rg x.b) = ab) (hkey : abv L l emp ab = key) (hne : ab ≠ emp) (hkk : key ≠ emp) (hl : lk.length ≤ 999) :
    Calls Tryz.prog 76 #[.pointer (some ⟨mb, 0, none⟩), x.val] w (Dup B w mb s (fun v' => ({ s with lv := v' } : Ms).set x.a ⟨2, 0, key⟩) td (lk ++ [(V.bhd ab, key)]) M l) := by
  have hsz := bKey_size hB
  have hks : key.size ≤ 64 := by
    rcases abv_key h.ok h.kk emp ab with e | e
    · rw [← hkey, e]; exact Nat.zero_le _
    · rw [← hkey]; exact (isKey_size e).2
  rw [hab] at hsz
  obtain ⟨op, a, b, c, n, vk, vi, vt⟩ := x
  dsimp only at a0 a1 b0 b1 hB hab ⊢
  obtain ⟨a, rfl⟩ := Int.eq_ofNat_of_zero_le a0
  have ha2 : a < 16 := by omega
  have hml := h.m.m.lt
  have hb0 : Below w.heap.size w (w.alloc (io op a b c n vk vi vt)) := below1 w _
  have hbd := bd_ok b (h.below hb0).m b0 b1 hB
  rw [hab] at hbd
  have HBD := hid hbd
  have hnew := hp_new w (io op a b c n vk vi vt)
  have HAB := hid (fun W (hb : Below w.heap.size w W) => show Calls Tryz.prog 105 #[.pointer (some ⟨mb, 0, none⟩), .string ab, .string emp] W fun e w' => e = .returned (.string key) ∧ Below W.heap.size W w' from by rw [← hkey]; exact (h.below hb).above ab emp (by omega))
  have HLK := hid (fun W (hb : Below w.heap.size w W) => look_m (V.bhd ab) key (h.below hb).m (by omega) (by rw [V.bhd_size]; omega) (by omega))
  have HX := hid (And.intro h (And.intro hb0 hnew))
  have e1 := V.emp_ne hne
  have e2 := V.emp_ne hkk
  have hbs : (ab ++ (⟨#[0]⟩ : ByteArray)).size = ab.size + 1 := V.bhd_size ab
  clear h hB hab hkey hbd hb0 hnew hks hne hkk
  unfold Ins.val
  dsimp only
  go_enter Tryz.func76, Tryz.ntmps76
  go_wp2_with (first
    | (go_at_call 104
       refine HBD.out.mono ?_
       rintro e w1 ⟨rfl, hb1⟩
       have H1 := hid (And.intro (below_on HX.out.2.1 hb1) (hp_below HX.out.2.2 hb1 (hp_lt HX.out.2.2)))
       clear hb1)
    | (go_at_call 105
       refine (HAB.out _ H1.out.1).mono ?_
       rintro e w2 ⟨rfl, hb2⟩
       have H2 := hid (And.intro (below_on H1.out.1 hb2) (hp_below H1.out.2 hb2 (hp_lt H1.out.2)))
       clear hb2)
    | (go_at_call 92
       refine (HLK.out _ H2.out.1).mono ?_
       rintro e w3 ⟨rfl, ⟨v', hx3⟩, hb3, hk3⟩
       have y2 := hpk H2.out.2 hk3 (fun e => by
         rcases e with e | e
         · omega
         · have := (HX.out.1.m.lk.lt _ e).2; omega)
       obtain ⟨-, i1, -⟩ := cells8 y2
       obtain ⟨r0, r1, r2⟩ := hx3.m.reg a a0 a1
       rw [Int.toNat_natCast] at r0 r1 r2
       have hfz := hx3.m.free
       have hml3 := hx3.m.lt
       have lt3 := hp_lt y2
       have H3 := hid (And.intro hx3 (And.intro ((bsx (s := s) (mb := mb) (M := M) H2.out.1).trans hk3 (fun j _ e => e.elim .inl (fun e => .inr (.inr (.inr e))))) y2))
       clear hx3 hb3 hk3 y2))
  go_region
  all_goals
    obtain ⟨W4, hW4, d2, d3⟩ := did_set1 H3.out.1 a ha2 z0
    rw [show (((w3.setCell ⟨mb, 3 + a * 3, none⟩ (.int .i64 0)).setCell ⟨mb, 3 + a * 3 + 1, none⟩ (.int .i64 0)).setCell ⟨mb, 3 + a * 3 + 2, none⟩ (.string ⟨#[]⟩)) = W4 from hW4.symm]
    have y4 := hpk H3.out.2.2 d3 (fun e => by omega)
    obtain ⟨-, i4, -⟩ := cells8 y4
    replace i4 := (show W4.drew.cell? ⟨w.heap.size, 1, none⟩ = some (.int .i64 a) from i4)
    have H4 := hid (And.intro (d2.below ((Below.refl _ W4).drew)) ((H3.out.2.1.trans d3 (fun _ _ e => .inl e)).drew))
    clear hW4 d2 d3 y4 r0 r1 r2 i1 hfz
    generalize W4.drew = W5 at *
    obtain ⟨r0, r1, r2⟩ := H4.out.1.m.reg a a0 a1
    rw [Int.toNat_natCast] at r0 r1 r2
    have hfz := H4.out.1.m.free
    have hml4 := H4.out.1.m.lt
    have lt5 := World.block_lt_of_cell? _ _ i4
    dsimp only at lt5
    go_wp2_with fail
    go_region
    all_goals
      go_end0
      obtain ⟨W6, rfl, d2, d3⟩ := did_set1 H4.out.1 a ha2 ⟨2, 0, key⟩
      rw [set_set] at d2
      exact ⟨rfl, ⟨v', d2.below ((Below.refl _ _).drew)⟩, (H4.out.2.trans d3 (fun _ _ e => .inl e)).drew⟩
end
section
variable {w w' : World} {B mb M : Nat} {s : Ms} {td : List Vd} {lk : List (ByteArray × ByteArray)} {l : KV} {kv : List (ByteArray × Value)} {p : Nat} {L : KV}
set_option maxHeartbeats 1600000 in
theorem opnext_nb (x : Ins) (h : MX w B mb s td lk M kv) (b0 : 0 ≤ x.b) (b1 : x.b < 16) (hB : bErr (s.rg x.b) ≠ 0) :
    Calls Tryz.prog 76 #[.pointer (some ⟨mb, 0, none⟩), x.val] w (Gave B w mb s td lk M kv (stE (bErr (s.rg x.b)))) := by
  obtain ⟨op, a, b, c, n, vk, vi, vt⟩ := x
  dsimp only at b0 b1 hB ⊢
  have hb0 : Below w.heap.size w (w.alloc (io op a b c n vk vi vt)) := below1 w _
  have HBD := hid (bd_no b (h.below hb0) b0 b1 hB)
  generalize bErr (s.rg b) = er at *
  have HX := hid (And.intro h hb0)
  clear h hB hb0
  unfold Ins.val
  dsimp only
  go_enter Tryz.func76, Tryz.ntmps76
  go_wp2_with (
    go_at_call 104
    refine HBD.out.mono ?_
    rintro e w1 ⟨rfl, hb1⟩
    have H1 := hid (below_on HX.out.2 hb1)
    clear hb1)
  exact ⟨rfl, rfl, HX.out.1.below H1.out, bsx H1.out⟩
set_option maxHeartbeats 1600000 in
theorem get_no (x : Ins) (h : MX w B mb s td lk M kv) (b0 : 0 ≤ x.b) (b1 : x.b < 16) (hk : kErr (s.rg x.b) ≠ 0) :
    Calls Tryz.prog 65 #[.pointer (some ⟨mb, 0, none⟩), x.val] w (Gave B w mb s td lk M kv (stE (kErr (s.rg x.b)))) := by
  obtain ⟨op, a, b, c, n, vk, vi, vt⟩ := x
  dsimp only at b0 b1 hk ⊢
  have hb0 : Below w.heap.size w (w.alloc (io op a b c n vk vi vt)) := below1 w _
  have HBD := hid (keym_no b (h.below hb0) b0 b1 hk)
  generalize kErr (s.rg b) = er at *
  have HX := hid (And.intro h hb0)
  clear h hk hb0
  unfold Ins.val
  dsimp only
  go_enter Tryz.func65, Tryz.ntmps65
  go_wp2_with (
    go_at_call 91
    refine HBD.out.mono ?_
    rintro e w1 ⟨rfl, hb1⟩
    have H1 := hid (below_on HX.out.2 hb1)
    clear hb1)
  exact ⟨rfl, rfl, HX.out.1.below H1.out, bsx H1.out⟩
set_option maxHeartbeats 3200000 in
theorem get_own (x : Ins) (v : Vd) (h : MX w B mb s td lk M (kvV l)) (a0 : 0 ≤ x.a) (a1 : x.a < 16) (b0 : 0 ≤ x.b) (b1 : x.b < 16) (hk : kErr (s.rg x.b) = 0) (hv : lkp (s.rg x.b).t l = some v) :
    Calls Tryz.prog 65 #[.pointer (some ⟨mb, 0, none⟩), x.val] w (Did B w mb s (s.set x.a v) td lk M (kvV l)) := by
  obtain ⟨op, a, b, c, n', vk, vi, vt⟩ := x
  dsimp only at a0 a1 b0 b1 hk hv ⊢
  obtain ⟨a, rfl⟩ := Int.eq_ofNat_of_zero_le a0
  have ha2 : a < 16 := by omega
  have hml := h.m.lt
  have hb0 : Below w.heap.size w (w.alloc (io op a b c n' vk vi vt)) := below1 w _
  have HK := hid (keym_ok b (h.below hb0) b0 b1 hk)
  generalize (s.rg b).t = key at *
  obtain ⟨-, y1, -⟩ := cells8 (hp_new w (io op a b c n' vk vi vt))
  have hy1 := World.block_lt_of_cell? _ _ y1
  obtain ⟨ck, ci, ct⟩ := v
  have HX := hid (And.intro h (And.intro hb0 hv))
  clear h hb0 hv hk
  unfold Ins.val
  dsimp only
  go_enter Tryz.func65, Tryz.ntmps65
  go_wp2_with (first
    | (go_at_call 91
       refine HK.out.mono ?_
       rintro e w1 ⟨rfl, hb1⟩
       have hx1 := HX.out.1.below (below_on HX.out.2.1 hb1)
       have hl1 := hx1.lookG key
       rw [HX.out.2.2] at hl1
       replace hl1 : (Instr.lookup 74 (.map (some M)) (.string key) true).run Tryz.prog w1 = .ok (.tuple #[vl ck ci ct, .bool true]) w1 := hl1
       obtain ⟨-, -, -, -, c4, -⟩ := hx1.m.cells
       rw [HX.out.1.wv] at c4
       have z1 := (hb1.cell hy1).trans y1
       have H1 := hid (And.intro (below_on HX.out.2.1 hb1) hx1)
       clear hb1 hx1))
  have hw1 := World.block_lt_of_cell? _ _ z1
  dsimp only at hw1
  have hb2 : Below w1.heap.size w1 (w1.alloc (vo ck ci ct)).drew := ((below1 w1 _)).drew
  have hx2 := H1.out.2.below hb2
  have HSE := hid (seen_own key ⟨ck, ci, ct⟩ hx2 HX.out.2.2)
  have z2 := (show (w1.alloc (vo ck ci ct)).drew.cell? ⟨w.heap.size, 1, none⟩ = some (.int .i64 a) from (hb2.cell hw1).trans z1)
  have hne : mb ≠ w.heap.size := by omega
  have H2 := hid (below_on H1.out.1 hb2)
  clear hx2 z1 y1 hl1 c4
  go_region_held3 (fun wx => wx.cell? ⟨w.heap.size, 1, none⟩ = some (.int .i64 a))
    (first | exact z2 | exact z4 | (rw [V.cs_blk hne, V.cs_blk hne, V.cs_blk hne]; exact z4))
    (first
    | (go_at_call 93
       refine HSE.out.mono ?_
       rintro e w4 ⟨rfl, hb4⟩
       have hx4 := H1.out.2.below (below_on hb2 hb4)
       have z4 := (hb4.cell (World.block_lt_of_cell? _ _ z2)).trans z2
       obtain ⟨s0, s1, s2⟩ := hx4.m.reg a a0 a1
       rw [Int.toNat_natCast] at s0 s1 s2
       have hfz := hx4.m.free
       have H4 := hid (And.intro hx4 (below_on H2.out hb4))
       clear hb4 hx4))
  all_goals
    go_end0
    obtain ⟨W, rfl, d2, d3⟩ := did_set1 H4.out.1 a ha2 ⟨ck, ci, ct⟩
    exact ⟨rfl, d2, (bsx H4.out.2).trans d3 (fun _ _ e => .inl e)⟩
set_option maxHeartbeats 3200000 in
theorem get_view (x : Ins) (h : MV w B mb s td lk M l p L) (a0 : 0 ≤ x.a) (a1 : x.a < 16) (b0 : 0 ≤ x.b) (b1 : x.b < 16) (hk : kErr (s.rg x.b) = 0) (hn : lkp (s.rg x.b).t l = none) (hl : lk.length ≤ 1000) :
    Calls Tryz.prog 65 #[.pointer (some ⟨mb, 0, none⟩), x.val] w (Dup B w mb s (fun v' => ({ s with lv := v' } : Ms).set x.a (seenF L l (s.rg x.b).t)) td (lk ++ [((s.rg x.b).t, (s.rg x.b).t)]) M l) := by
  obtain ⟨op, a, b, c, n', vk, vi, vt⟩ := x
  dsimp only at a0 a1 b0 b1 hk hn ⊢
  obtain ⟨a, rfl⟩ := Int.eq_ofNat_of_zero_le a0
  have ha2 : a < 16 := by omega
  have hml := h.m.m.lt
  have hb0 : Below w.heap.size w (w.alloc (io op a b c n' vk vi vt)) := below1 w _
  have HK := hid (keym_ok b (h.m.below hb0) b0 b1 hk)
  have hz := (kErr_ok hk).2.2.1
  generalize (s.rg b).t = key at *
  obtain ⟨-, y1, -⟩ := cells8 (hp_new w (io op a b c n' vk vi vt))
  have hy1 := World.block_lt_of_cell? _ _ y1
  have hsl : ∀ j, s.lv.ownBlock = some j → j < w.heap.size := fun j e => (h.m.lk.lt j e).2
  have HSN := hid (fun W (v' : Value) (hm : MX W B mb { s with lv := v' } td (lk ++ [(key, key)]) M (kvV l)) (hv : VL W p L) => seen_any key p L hm h.vw hv)
  generalize seenF L l key = v at *
  obtain ⟨ck, ci, ct⟩ := v
  have hVK : ∀ W, Kept (Sx s mb M) w W → VL W p L := fun W hk => h.vl W (h.m.keptB hk)
  have HX := hid (And.intro h (And.intro hb0 (And.intro hn (And.intro hsl hVK))))
  clear h hb0 hn hk hsl hVK
  unfold Ins.val
  dsimp only
  go_enter Tryz.func65, Tryz.ntmps65
  go_wp2_with (first
    | (go_at_call 91
       refine HK.out.mono ?_
       rintro e w1 ⟨rfl, hb1⟩
       have hx1 := HX.out.1.m.below (below_on HX.out.2.1 hb1)
       have hl1 := hx1.lookG key
       rw [HX.out.2.2.1] at hl1
       replace hl1 : (Instr.lookup 74 (.map (some M)) (.string key) true).run Tryz.prog w1 = .ok (.tuple #[vl 0 0 emp, .bool false]) w1 := hl1
       obtain ⟨-, -, -, -, c4, -⟩ := hx1.m.cells
       rw [HX.out.1.m.wv] at c4
       have hx2 := hx1.below (below1 w1 (vo 0 0 emp))
       have HL := hid (look_m key key hx2 (by omega) (by omega) (by omega))
       have z1 := (hb1.cell hy1).trans y1
       have H1 := hid (below_on HX.out.2.1 hb1)
       clear hb1 hx1 hx2)
    | (go_at_call 92
       refine HL.out.mono ?_
       rintro e w3 ⟨rfl, ⟨v', hx3⟩, hb3, hk3⟩
       have hw1 := World.block_lt_of_cell? _ _ z1
       have z3 := hk3.cell (((below1 w1 (vo 0 0 emp)).cell hw1).trans z1) (fun e => by
         rcases e with e | e
         · dsimp only at e; omega
         · have := HX.out.2.2.2.1 _ e; dsimp only at this; omega)
       have q1 : Kept (Sx s mb M) w (w1.alloc (vo 0 0 emp)) := bsx (H1.out.alloc H1.out.size _)
       have q2 : Kept (Sx s mb M) w w3 := q1.trans hk3 (fun k _ e => e.elim .inl (fun e => .inr (.inr (.inr e))))
       have H3 := hid (And.intro hx3 q2)
       clear hx3 hb3 hk3 q1 q2))
  have hx3d := H3.out.1.below ((Below.refl _ w3).drew)
  have HSE := hid (HSN.out _ v' hx3d (HX.out.2.2.2.2 _ H3.out.2.drew))
  replace HSE : Hid (Calls Tryz.prog 93 #[.pointer (some ⟨mb, 0, none⟩), .string key] w3.drew fun e w' => e = .returned (vl ck ci ct) ∧ Below w3.drew.heap.size w3.drew w') := HSE
  have z3d := (show w3.drew.cell? ⟨w.heap.size, 1, none⟩ = some (.int .i64 a) from z3)
  have hne : mb ≠ w.heap.size := by omega
  clear hx3d z1 y1 hl1 c4
  go_region_held3 (fun wx => wx.cell? ⟨w.heap.size, 1, none⟩ = some (.int .i64 a))
    (first | exact z3d | exact z4 | (rw [V.cs_blk hne, V.cs_blk hne, V.cs_blk hne]; exact z4))
    (first
    | (go_at_call 93
       refine HSE.out.mono ?_
       rintro e w4 ⟨rfl, hb4'⟩
       have hb4 := (show Below w3.heap.size w3 w4 from ⟨hb4'.os, hb4'.tape, hb4'.output, hb4'.size, hb4'.block⟩)
       have hx4 := H3.out.1.below hb4
       have z4 := (hb4.cell (World.block_lt_of_cell? _ _ z3)).trans z3
       obtain ⟨s0, s1, s2⟩ := hx4.m.reg a a0 a1
       rw [Int.toNat_natCast] at s0 s1 s2
       have hfz := hx4.m.free
       have H4 := hid (And.intro hx4 hb4)
       clear hb4 hb4' hx4))
  all_goals
    go_end0
    obtain ⟨W, rfl, d2, d3⟩ := did_set1 H4.out.1 a ha2 ⟨ck, ci, ct⟩
    have q4 : Kept (Sx s mb M) w w4 := H3.out.2.trans (Kept.ofBelow H4.out.2) (fun _ _ e => e.elim)
    exact ⟨rfl, ⟨v', d2⟩, q4.trans d3 (fun _ _ e => .inl e)⟩
end
end Go.Proofs.YthcoigbkdbkojabGreat
/-
  DERIVED: THE SHELF's CONTRACTS AT THIS DUMP, IN PLAIN WORDS (tools/lay-plain.mjs out of 'YthcoigbkdbkojabGreatLaysBRaw.lean', which tools/lay-shelf.mjs wrote): THE SAME DECLARATIONS UNDER THE SAME NAMES: 'import', 'namespace', 'open', 'def', 'theorem' AND NOTHING ELSE: no command of the shelf's: FOR A HAND-IN. Each laying: the table of numbers ('.._ren') and one theorem, a field a fact of the dump's own or the kernel's comparison; each contract: ONE APPLICATION.
-/
namespace Go.Proofs
open Go.Shelf
def Tryz.lays264_ren : Go.Shelf.Ren := ⟨fun | 264 => 146 | n => n, fun | 53 => 182 | 46 => 197 | n => n, fun | n => n⟩
theorem Tryz.lays264 : Go.Proofs.Lays.n264 Tryz.prog Tryz.lays264_ren := {
  mixed := by kernel_rfl
  f264 := Tryz.func146.trans (congrArg some (by kernel_rfl))
  t46 := Tryz.underlying197
  a46 := Tryz.isAgg197
  z46 := Tryz.sizeOf197
  v46 := Tryz.zeroValue197
  t53 := Tryz.underlying182
  a53 := Tryz.isAgg182
  z53 := Tryz.sizeOf182
  v53 := Tryz.zeroValue182 }
end Go.Proofs
