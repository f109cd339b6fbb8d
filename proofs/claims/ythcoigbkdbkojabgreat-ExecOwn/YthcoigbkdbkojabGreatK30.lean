import Derived.Test.YthcoigbkdbkojabGreatK29
import Derived.Test.YthcoigbkdbkojabGreatK27
set_option maxRecDepth 100000
namespace Go.Proofs.YthcoigbkdbkojabGreat
open Go.RowKit Go.MapKept
open V (hp_new hp_lt hp_below hp_alloc)
def Mc.reg (c : Mc) (r : Int) (v : Vd) : Mc := { c with rg := fun q => if q = r then v else c.rg q }
section
variable {ws : World} {B mb M : Nat} {pc : Int} {x : Ins} {c : Mc}
theorem g_arg (ho : x.op = 2) (l : List Vd) (v : Vd) (ha : ∀ W, Below B ws W → Va W c.av l) (h0 : 0 ≤ x.a) (h1 : x.a < 16) (hn : 0 ≤ x.n) (hv : l[x.n.toNat]? = some v) : Goes1 ws B mb M pc x c (c.reg x.a v) :=
  ⟨2, ho, by omega, by omega, fun W tv lv hx hb => (arg_any x v l hx (ha W hb) h0 h1 hn hv).mono (fun _ _ h => ⟨h.1, ⟨tv, lv, h.2.1⟩, h.2.2⟩)⟩
theorem g_get (ho : x.op = 3) (key : ByteArray) (p : Nat) (g : ByteArray → Option V.Pd) (n B0 : Nat) (v : Vd) (a0 : 0 ≤ x.a) (a1 : x.a < 16) (b0 : 0 ≤ x.b) (b1 : x.b < 16) (hr : c.rg x.b = ⟨2, 0, key⟩) (hi : isKeyB key = true) (hl : c.lk.length ≤ 1000) (hv : c.vw = .iface 42 (.pointer (some ⟨p, 0, none⟩))) (hp : ∀ W, Below B ws W → V.PV W p g false n B0) (hn : key ∉ c.kv.map Prod.fst) (hg : g key = some (pdOf v)) :
    Goes1 ws B mb M pc x c { c.reg x.a v with lk := c.lk ++ [(key, key)] } :=
  ⟨3, ho, by omega, by omega, fun W tv lv hx hb => (get_m x key p g n B0 (pdOf v) hx a0 a1 b0 b1 hr (by unfold isKeyB at hi; have := of_decide_eq_true hi; omega) hi hl hv (fun W' hb' => hp W' (hb.trans hb')) hn hg).mono (fun _ _ h => by obtain ⟨v', h1, h2, h3⟩ := h; exact ⟨h1, ⟨tv, v', h2⟩, h3⟩)⟩
theorem g_tell (ho : x.op = 15) (a0 : 0 ≤ x.a) (a1 : x.a < 16) (hl : c.td.length < 64) (hz : (c.rg x.a).t.size ≤ 281474976710656) : Goes1 ws B mb M pc x c { c with td := c.td ++ [c.rg x.a] } :=
  ⟨15, ho, by omega, by omega, fun W tv lv hx _ => (tell_m x hx a0 a1 hl hz).mono (fun _ _ h => by obtain ⟨v', h1, h2, h3⟩ := h; exact ⟨h1, ⟨v', lv, h2⟩, h3⟩)⟩
theorem g_put (ho : x.op = 4) (key : ByteArray) (a0 : 0 ≤ x.a) (a1 : x.a < 16) (b0 : 0 ≤ x.b) (b1 : x.b < 16) (hr : c.rg x.a = ⟨2, 0, key⟩) (hi : isKeyB key = true) (hn : key ∉ c.kv.map Prod.fst) : Goes1 ws B mb M pc x c { c with kv := c.kv ++ [(key, (c.rg x.b).val)] } :=
  ⟨4, ho, by omega, by omega, fun W tv lv hx _ => (put_m x key hx a0 a1 b0 b1 hr (by unfold isKeyB at hi; have := of_decide_eq_true hi; omega) hi hn).mono (fun _ _ h => ⟨h.1, ⟨tv, lv, h.2.1⟩, h.2.2⟩)⟩
end
def ics (x : Ins) : List Value := [.int .i64 x.op, .int .i64 x.a, .int .i64 x.b, .int .i64 x.c, .int .i64 x.n, .int .i64 x.k, .int .i64 x.i, .string x.t]
theorem code_lit {w : World} {b : Nat} {t : TypeId} {cs : Array Value} {xs : List Ins} (h : w.heap[b]? = some (.cells cs t (0, 0))) (hc : cs.toList = xs.flatMap ics) : CodeAt w (.slice (some ⟨b, 0, none⟩) xs.length xs.length) xs := by
  refine ⟨_, _, rfl, Nat.le_refl _, fun _ => ⟨b, 0, rfl, fun j x hx => ?_⟩⟩
  have key : ∀ c u, c < 8 → (ics x)[c]? = some u → w.cell? ⟨b, 0 + j * 8 + c, none⟩ = some u := fun c u h8 hu => by
    rw [cell_of_row _ _ _ _ _ _ h, Nat.zero_add, ← Array.getElem?_toList, hc, flat_get ics 8 (fun _ => rfl) _ _ _ h8, hx]
    exact hu
  exact ⟨key 0 _ (by omega) rfl, key 1 _ (by omega) rfl, key 2 _ (by omega) rfl, key 3 _ (by omega) rfl, key 4 _ (by omega) rfl, key 5 _ (by omega) rfl, key 6 _ (by omega) rfl, key 7 _ (by omega) rfl⟩
theorem va_lit {w : World} {b : Nat} {t : TypeId} {cs : Array Value} {l : List Vd} (h : w.heap[b]? = some (.cells cs t (0, 0))) (hc : cs.toList = l.flatMap vcs) : Va w (.slice (some ⟨b, 0, none⟩) l.length l.length) l := by
  refine ⟨_, _, rfl, Nat.le_refl _, fun _ => ⟨b, 0, rfl, fun j x hx => ?_⟩⟩
  have key : ∀ c u, c < 3 → (vcs x)[c]? = some u → w.cell? ⟨b, 0 + j * 3 + c, none⟩ = some u := fun c u h8 hu => by
    rw [cell_of_row _ _ _ _ _ _ h, Nat.zero_add, ← Array.getElem?_toList, hc, flat_get vcs 3 (fun _ => rfl) _ _ _ h8, hx]
    exact hu
  exact ⟨key 0 _ (by omega) rfl, key 1 _ (by omega) rfl, key 2 _ (by omega) rfl⟩
abbrev aK : ByteArray := ⟨#[97]⟩
abbrev xsK : List Ins := [⟨2, 0, 0, 0, 0, 0, 0, emp⟩, ⟨3, 1, 0, 0, 0, 0, 0, emp⟩, ⟨15, 1, 0, 0, 0, 0, 0, emp⟩, ⟨4, 0, 0, 0, 0, 0, 0, emp⟩]
def stK (vw av : Value) : Nat → Mc
  | 0 => mc0 vw av
  | 1 => (mc0 vw av).reg 0 ⟨2, 0, aK⟩
  | 2 => { ((mc0 vw av).reg 0 ⟨2, 0, aK⟩).reg 1 ⟨1, 1, emp⟩ with lk := [(aK, aK)] }
  | 3 => { ((mc0 vw av).reg 0 ⟨2, 0, aK⟩).reg 1 ⟨1, 1, emp⟩ with lk := [(aK, aK)], td := [⟨1, 1, emp⟩] }
  | _ => { ((mc0 vw av).reg 0 ⟨2, 0, aK⟩).reg 1 ⟨1, 1, emp⟩ with lk := [(aK, aK)], td := [⟨1, 1, emp⟩], kv := [(aK, vl 2 0 aK)] }
theorem chkK : procChk ⟨#[112]⟩ 1 xsK = (0, 0) := by decide +kernel
theorem goesK {w : World} {p B0 n : Nat} {av : Value} (hpv : V.PV w p (stG [(aK, ⟨1, 1, emp⟩)]) false n B0) (ha : Va w av [⟨2, 0, aK⟩]) (ws : World) (mb M : Nat) (hb : Below w.heap.size w ws) (k : Nat) (x : Ins) (hx : xsK[k]? = some x) :
    Goes1 ws ws.heap.size mb M k x (stK (.iface 42 (.pointer (some ⟨p, 0, none⟩))) av k) (stK (.iface 42 (.pointer (some ⟨p, 0, none⟩))) av (k + 1)) := by
  match k, hx with
  | 0, hx =>
    injection hx with hx
    subst hx
    exact g_arg rfl [⟨2, 0, aK⟩] ⟨2, 0, aK⟩ (fun W hW => (ha.below hb).below hW) (by decide) (by decide) (by decide) rfl
  | 1, hx =>
    injection hx with hx
    subst hx
    exact g_get rfl aK p _ n B0 ⟨1, 1, emp⟩ (by decide) (by decide) (by decide) (by decide) rfl (by decide +kernel) (by simp [stK, mc0, Mc.reg]) rfl (fun W hW => (hpv.below hb).below hW) (by simp [stK, mc0, Mc.reg]) (by simp [stG, V.updG, pdOf])
  | 2, hx =>
    injection hx with hx
    subst hx
    exact g_tell rfl (by decide) (by decide) (by simp [stK, mc0, Mc.reg]) (by show emp.size ≤ _; decide +kernel)
  | 3, hx =>
    injection hx with hx
    subst hx
    exact g_put rfl aK (by decide) (by decide) (by decide) (by decide) rfl (by decide +kernel) (by simp [stK, mc0, Mc.reg])
  | k + 4, hx => simp at hx
theorem dnL_one (key : ByteArray) (d : Vd) : dnL [(key, d.val)] = [(key, d)] := by
  have h1 : sk [(key, d.val)] = [key.data.toList] := by simp [sk]
  have h2 : (⟨key.data.toList.toArray⟩ : ByteArray) = key := by simp
  have h3 : lkpM key [(key, d.val)] = some d.val := by unfold lkpM; simp [List.lookup]
  unfold dnL
  rw [h1, List.map_cons, List.map_nil, h2, h3]
  rfl
theorem Rf.first {w : World} {m : Nat} {v : Value} {n : Nat} {cs : List Value} (h : Rf w m v n cs) (h0 : 0 < n) (hm : 0 < m) : ∃ b off cap, v = .slice (some ⟨b, off, none⟩) n cap ∧ b < w.heap.size ∧ ∀ j u, cs[j]? = some u → w.cell? ⟨b, off + j, none⟩ = some u := by
  obtain ⟨b, off, cap, e, -, -, hc⟩ := h.lits h0 hm
  have hl := h.1
  have hpos : 0 < cs.length := by rw [hl]; exact Nat.mul_pos h0 hm
  exact ⟨b, off, cap, e, World.block_lt_of_cell? _ _ (hc 0 cs[0] (by simp [hpos])), hc⟩
theorem effK {B R : Nat} {vw av v : Value} {W : World} (h : Eff B R (stK vw av 4) v W) : ∃ b1 o1 k1 b2 o2 k2 b3 o3 k3, v = .agg #[.int .i64 1, .int .i64 0, .slice (some ⟨b1, o1, none⟩) 1 k1, .slice (some ⟨b2, o2, none⟩) 1 k2, .slice (some ⟨b3, o3, none⟩) 1 k3] ∧
    (b1 < W.heap.size ∧ b2 < W.heap.size ∧ b3 < W.heap.size) ∧ W.cell? ⟨b1, o1 + 1, none⟩ = some (.int .i64 1) ∧ W.cell? ⟨b2, o2, none⟩ = some (.string aK) ∧ W.cell? ⟨b2, o2 + 1 + 2, none⟩ = some (.string aK) ∧ W.cell? ⟨b3, o3, none⟩ = some (.string aK) ∧ W.cell? ⟨b3, o3 + 1, none⟩ = some (.string aK) := by
  obtain ⟨t1, k1, t2, k2, t3, k3, e, h1, h2, h3, -⟩ := h.ex
  obtain ⟨b1, o1, c1, e1, l1, q1⟩ := (rf_of_owns h1 (vcs_one _)).first (by show 0 < 1; decide) (by omega)
  obtain ⟨b2, o2, c2, e2, l2, q2⟩ := (rf_of_owns h2 (ecs_one _)).first (by show 0 < 1; decide) (by omega)
  obtain ⟨b3, o3, c3, e3, l3, q3⟩ := (rf_of_owns h3 (lcs_one _)).first (by show 0 < 1; decide) (by omega)
  have hd : dnL (stK vw av 4).kv = [(aK, ⟨2, 0, aK⟩)] := dnL_one aK ⟨2, 0, aK⟩
  rw [hd] at q2
  refine ⟨b1, o1, c1, b2, o2, c2, b3, o3, c3, ?_, ⟨l1, l2, l3⟩, q1 1 _ rfl, q2 0 _ rfl, q2 3 _ rfl, q3 0 _ rfl, q3 1 _ rfl⟩
  rw [e, e1, e2, e3]
  rfl
abbrev wK (w1 : World) : World := ((w1.alloc (.cells #[.int .i64 2, .int .i64 0, .int .i64 0, .int .i64 0, .int .i64 0, .int .i64 0, .int .i64 0, .string emp, .int .i64 3, .int .i64 1, .int .i64 0, .int .i64 0, .int .i64 0, .int .i64 0, .int .i64 0, .string emp, .int .i64 15, .int .i64 1, .int .i64 0, .int .i64 0, .int .i64 0, .int .i64 0, .int .i64 0, .string emp, .int .i64 4, .int .i64 0, .int .i64 0, .int .i64 0, .int .i64 0, .int .i64 0, .int .i64 0, .string emp] 31)).alloc (.cells #[.string ⟨#[112]⟩, .int .i64 1, .slice (some ⟨w1.heap.size, 0, none⟩) 4 4] 34)).alloc (.cells #[.int .i64 2, .int .i64 0, .string aK] 29)
theorem runK {w1 : World} {p n B0 : Nat} (hpv : V.PV w1 p (stG [(aK, ⟨1, 1, emp⟩)]) false n B0) :
    Calls Tryz.prog 7 #[.iface 42 (.pointer (some ⟨p, 0, none⟩)), .agg #[.string ⟨#[112]⟩, .int .i64 1, .slice (some ⟨w1.heap.size, 0, none⟩) 4 4], .slice (some ⟨w1.heap.size + 1 + 1, 0, none⟩) 1 1] (wK w1) fun e w' => ∃ b1 o1 k1 b2 o2 k2 b3 o3 k3, e = .returned (.agg #[.int .i64 1, .int .i64 0, .slice (some ⟨b1, o1, none⟩) 1 k1, .slice (some ⟨b2, o2, none⟩) 1 k2, .slice (some ⟨b3, o3, none⟩) 1 k3]) ∧
      ((b1 < w'.heap.size ∧ b2 < w'.heap.size ∧ b3 < w'.heap.size) ∧ w'.cell? ⟨b1, o1 + 1, none⟩ = some (.int .i64 1) ∧ w'.cell? ⟨b2, o2, none⟩ = some (.string aK) ∧ w'.cell? ⟨b2, o2 + 1 + 2, none⟩ = some (.string aK) ∧ w'.cell? ⟨b3, o3, none⟩ = some (.string aK) ∧ w'.cell? ⟨b3, o3 + 1, none⟩ = some (.string aK)) ∧ Below w1.heap.size w1 w' := by
  obtain ⟨hA, -, hC, hb⟩ := three w1 (.cells #[.int .i64 2, .int .i64 0, .int .i64 0, .int .i64 0, .int .i64 0, .int .i64 0, .int .i64 0, .string emp, .int .i64 3, .int .i64 1, .int .i64 0, .int .i64 0, .int .i64 0, .int .i64 0, .int .i64 0, .string emp, .int .i64 15, .int .i64 1, .int .i64 0, .int .i64 0, .int .i64 0, .int .i64 0, .int .i64 0, .string emp, .int .i64 4, .int .i64 0, .int .i64 0, .int .i64 0, .int .i64 0, .int .i64 0, .int .i64 0, .string emp] 31) (.cells #[.string ⟨#[112]⟩, .int .i64 1, .slice (some ⟨w1.heap.size, 0, none⟩) 4 4] 34) (.cells #[.int .i64 2, .int .i64 0, .string aK] 29)
  have hc : CodeAt (wK w1) (.slice (some ⟨w1.heap.size, 0, none⟩) 4 4) xsK := code_lit (xs := xsK) hA rfl
  have ha : Va (wK w1) (.slice (some ⟨w1.heap.size + 1 + 1, 0, none⟩) 1 1) [⟨2, 0, aK⟩] := va_lit (l := [⟨2, 0, aK⟩]) hC rfl
  refine (exec_ok 42 p _ _ ⟨#[112]⟩ 1 xsK [⟨2, 0, aK⟩] (wK w1) 0 hc ha (by decide) (by decide) chkK (by intro x hx; simp at hx; rw [hx]; decide +kernel) rfl (stK (.iface 42 (.pointer (some ⟨p, 0, none⟩))) (.slice (some ⟨w1.heap.size + 1 + 1, 0, none⟩) 1 1)) rfl (goesK (hpv.below hb) ha) (by show 1 ≤ 1000; decide) ?_ ?_).mono ?_
  · intro x hx
    have : x = (aK, vl 2 0 aK) := by simpa [stK] using hx
    rw [this]
    decide +kernel
  · intro x hx
    have : x = (aK, vl 2 0 aK) := by simpa [stK] using hx
    rw [this]
    exact ⟨⟨2, 0, aK⟩, rfl, by decide +kernel⟩
  · rintro e w' ⟨v, rfl, hE, hb2⟩
    obtain ⟨b1, o1, k1, b2, o2, k2, b3, o3, k3, rfl, h⟩ := effK hE
    exact ⟨b1, o1, k1, b2, o2, k2, b3, o3, k3, rfl, h, hb.trans (hb2.mono hb.size)⟩
set_option maxHeartbeats 8000000 in
theorem known_any (w : World) : Calls Tryz.prog 5 #[] w fun e w' => e = .returned (.bool true) ∧ Below w.heap.size w w' := by
  have HS := hid (store_any (.slice (some ⟨w.heap.size, 0, none⟩) 1 1) none 0 0 [(aK, ⟨1, 1, emp⟩)] (w.alloc (.cells (eca (aK, ⟨1, 1, emp⟩)) 45)) (rf_e w (aK, ⟨1, 1, emp⟩)) (by simp) (by intro x hx; simp at hx; rw [hx]; decide +kernel))
  go_enter Tryz.func5, Tryz.ntmps5
  go_wp2_with (first
    | (go_at_call 8
       refine HS.out.mono ?_
       rintro e w1 ⟨p, rfl, hpv, hb1⟩
       have HR := hid (runK hpv)
       have H1 := hid (below_on (below1 w _) hb1)
       clear hpv hb1)
    | (go_at_call 7
       refine HR.out.mono ?_
       rintro e w2 ⟨b1, o1, k1, b2, o2, k2, b3, o3, k3, rfl, ⟨⟨l1, l2, l3⟩, c1, c2, c3, c4, c5⟩, hb2⟩
       have H2 := hid (below_on H1.out hb2)
       clear hb2))
  go_ret
  exact ⟨rfl, H2.out.alloc H2.out.size _⟩
end Go.Proofs.YthcoigbkdbkojabGreat
namespace Go.Proofs.YthcoigbkdbkojabGreat
open Go.RowKit Go.MapKept
open V (hp_new hp_lt hp_below hp_alloc kl)
structure EfB (W : World) (r : Nat) (st at_ : Int) (td : List Vd) (wl : List (ByteArray × Vd)) (lk : List (ByteArray × ByteArray)) (t1 t2 t3 : Option Addr) (k1 k2 k3 : Nat) : Prop where
  bx : W.heap[r]? = some (.cells #[.int .i64 st, .int .i64 at_, .slice t1 td.length k1, .slice t2 wl.length k2, .slice t3 lk.length k3] 40 (0, 0))
  o1 : W.ownsRow 0 29 3 (.slice t1 td.length k1) td.length (td.flatMap vcs)
  o2 : W.ownsRow 0 45 4 (.slice t2 wl.length k2) wl.length (wl.flatMap ecs)
  o3 : W.ownsRow 0 55 2 (.slice t3 lk.length k3) lk.length (lk.flatMap lcs)
section
variable {W W' : World} {r : Nat} {st at_ : Int} {td : List Vd} {wl : List (ByteArray × Vd)} {lk : List (ByteArray × ByteArray)} {t1 t2 t3 : Option Addr} {k1 k2 k3 : Nat}
theorem EfB.below (h : EfB W r st at_ td wl lk t1 t2 t3 k1 k2 k3) (hb : Below W.heap.size W W') : EfB W' r st at_ td wl lk t1 t2 t3 k1 k2 k3 :=
  ⟨blk_of hb h.bx (hp_lt h.bx), ownsRow_kept h.o1 (Kept.ofBelow hb) (fun _ _ e => e), ownsRow_kept h.o2 (Kept.ofBelow hb) (fun _ _ e => e), ownsRow_kept h.o3 (Kept.ofBelow hb) (fun _ _ e => e)⟩
end
structure EfW (w' : World) (td : List Vd) (wl : List (ByteArray × Vd)) (lk : List (ByteArray × ByteArray)) (t1 t2 t3 : Option Addr) (k1 k2 k3 : Nat) : Prop where
  o1 : w'.ownsRow 0 29 3 (.slice t1 td.length k1) td.length (td.flatMap vcs)
  o2 : w'.ownsRow 0 45 4 (.slice t2 wl.length k2) wl.length (wl.flatMap ecs)
  o3 : w'.ownsRow 0 55 2 (.slice t3 lk.length k3) lk.length (lk.flatMap lcs)
structure LI (W : World) (r : Nat) (st at_ : Int) (td : List Vd) (wl : List (ByteArray × Vd)) (lk : List (ByteArray × ByteArray)) (t1 t2 t3 : Option Addr) (k1 k2 k3 : Nat) (wx : World) : Prop where
  bl : Below W.heap.size W wx
  o : wx.heap[W.heap.size]? = some (.cells #[.int .i64 st, .int .i64 at_, .slice t1 td.length k1] 37 (0, 0))
  ef : EfB wx r st at_ td wl lk t1 t2 t3 k1 k2 k3
section
variable {w9 W : World} {r : Nat} {st at_ : Int} {td : List Vd} {wl : List (ByteArray × Vd)} {lk : List (ByteArray × ByteArray)} {t1 t2 t3 : Option Addr} {k1 k2 k3 : Nat}
theorem EfW.new (h : EfW w9 td wl lk t1 t2 t3 k1 k2 k3) : EfB (w9.alloc (.cells #[.int .i64 st, .int .i64 at_, .slice t1 td.length k1, .slice t2 wl.length k2, .slice t3 lk.length k3] 40)) w9.heap.size st at_ td wl lk t1 t2 t3 k1 k2 k3 :=
  ⟨hp_new w9 _, ownsRow_kept h.o1 (Kept.ofBelow (below1 w9 _)) (fun _ _ e => e), ownsRow_kept h.o2 (Kept.ofBelow (below1 w9 _)) (fun _ _ e => e), ownsRow_kept h.o3 (Kept.ofBelow (below1 w9 _)) (fun _ _ e => e)⟩
end
theorem made_store (v : Value) (es : List (ByteArray × Vd)) (w : World) (h : Rf w 4 v es.length (es.flatMap ecs)) :
    Calls Tryz.prog 6 #[v] w fun e w' => ∃ a c, e = .returned (.agg #[.slice a (mdG (es.take 400)).length c, .slice none 0 0]) ∧ Rf w' 4 (.slice a (mdG (es.take 400)).length c) (mdG (es.take 400)).length ((mdG (es.take 400)).flatMap ecs) ∧ Below w.heap.size w w' := made_all v es w h _ rfl
end Go.Proofs.YthcoigbkdbkojabGreat
