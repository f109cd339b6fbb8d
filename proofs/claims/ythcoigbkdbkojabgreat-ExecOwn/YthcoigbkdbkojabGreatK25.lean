import Derived.Test.YthcoigbkdbkojabGreatK24
import Derived.Scope
set_option maxRecDepth 100000
namespace Go.Proofs.YthcoigbkdbkojabGreat
open Go.RowKit Go.MapKept
open V (hp_new hp_lt hp_below hp_alloc)
theorem cells5f {w : World} {p : Nat} {a b c d e : Value} {t : TypeId} (h : w.heap[p]? = some (.cells #[a, b, c, d, e] t (0, 0))) : w.cell? ⟨p, 0, none⟩ = some a ∧ w.cell? ⟨p, 1, none⟩ = some b ∧ w.cell? ⟨p, 2, none⟩ = some c ∧ w.cell? ⟨p, 3, none⟩ = some d ∧ w.cell? ⟨p, 4, none⟩ = some e ∧ ∀ o, w.frozen? ⟨p, o, none⟩ = false := by
  refine ⟨?_, ?_, ?_, ?_, ?_, fun o => free_of_block h⟩ <;> (rw [cell_of_row w p _ _ _ _ h]; rfl)
theorem set5 {w : World} {r : Nat} {a b c d e : Value} {t : TypeId} (h : w.heap[r]? = some (.cells #[a, b, c, d, e] t (0, 0))) (x y z u v : Value) :
    (((((w.setCell ⟨r, 0, none⟩ x).setCell ⟨r, 1, none⟩ y).setCell ⟨r, 2, none⟩ z).setCell ⟨r, 3, none⟩ u).setCell ⟨r, 4, none⟩ v).heap[r]? = some (.cells #[x, y, z, u, v] t (0, 0)) := by
  simp [World.setCell, Array.getElem?_modify, h]
theorem load43 {w : World} {r : Nat} {a b c d e : Value} (hb : w.heap[r]? = some (.cells #[a, b, c, d, e] 40 (0, 0))) : (loadVar 40 ⟨r, 0, none⟩).run Tryz.prog w = .ok (.agg #[a, b, c, d, e]) w := by
  obtain ⟨c0, c1, c2, c3, c4, -⟩ := cells5f hb
  simp [go_sem, c0, c1, c2, c3, c4]
theorem ret_eff {tmps : Array Value} {w : World} {r : Nat} {a b c d e : Value} (hb : w.heap[r]? = some (.cells #[a, b, c, d, e] 40 (0, 0))) (ht : tmps.getD 4 undef = .pointer (some ⟨r, 0, none⟩) := by rfl) :
    (results Tryz.f22 tmps).run Tryz.prog w = .ok (.agg #[a, b, c, d, e]) w := by
  simp only [Array.getD_eq_getD_getElem?] at ht
  simp only [results, Tryz.results22]
  simp [ht, load43 hb, asAddr]
def pcOf (w : World) (mb : Nat) : Nat := match w.cell? ⟨mb, 2, none⟩ with | some (.int _ n) => n.toNat | _ => 0
theorem MX.pc {w : World} {B mb M : Nat} {s : Ms} {td : List Vd} {lk : List (ByteArray × ByteArray)} {kv : List (ByteArray × Value)} (h : MX w B mb s td lk M kv) : pcOf w mb = s.pc.toNat := by
  obtain ⟨-, -, c2, -⟩ := h.m.cells
  unfold pcOf
  rw [c2]
theorem MX.next {w : World} {B mb M : Nat} {c : Mc} {pc : Int} {tv lv : Value} (h : MX w B mb (c.ms pc tv lv M) c.td c.lk M c.kv) (n : Int) : MX (w.setCell ⟨mb, 2, none⟩ (.int .i64 n)) B mb (c.ms n tv lv M) c.td c.lk M c.kv :=
  h.own (h.m.setAt n) ((Kept.refl (fun k => k = mb) w).setCell (p := ⟨mb, 2, none⟩) (fun _ => rfl) _) rfl rfl rfl
set_option maxHeartbeats 6400000 in
theorem run_ok (ws w : World) (B mb M : Nat) (xs : List Ins) (st : Nat → Mc) (code : Value) (P : Value → World → Prop) (h : MY w B mb M 0 (st 0)) (hw : Below B ws w) (hl : xs.length ≤ 64)
    (hc : ∀ W, Below B ws W → CodeAt W code xs) (hst : ∀ (k : Nat) x, xs[k]? = some x → Goes1 ws B mb M k x (st k) (st (k + 1)))
    (hd : ∀ W tv lv, MX W B mb ((st xs.length).ms xs.length tv lv M) (st xs.length).td (st xs.length).lk M (st xs.length).kv → RB W w.heap.size mb → Below B ws W → Calls Tryz.prog 43 #[.pointer (some ⟨mb, 0, none⟩)] W fun e w' => ∃ t1 n1 k1 t2 n2 k2 t3 n3 k3, e = .returned (.agg #[.int .i64 1, .int .i64 0, .slice t1 n1 k1, .slice t2 n2 k2, .slice t3 n3 k3]) ∧ P (.agg #[.int .i64 1, .int .i64 0, .slice t1 n1 k1, .slice t2 n2 k2, .slice t3 n3 k3]) w' ∧ Below W.heap.size W w')
    (hP : ∀ v W W', P v W → Kept (fun k => k = w.heap.size + 1) W W' → P v W') :
    Calls Tryz.prog 22 #[.pointer (some ⟨mb, 0, none⟩), code] w fun e w' => ∃ v, e = .returned v ∧ P v w' ∧ Below B w w' := by
  obtain ⟨ao, cap, rfl, hcap, hc0⟩ := hc w hw
  have hmf : ∀ (fn : Fn) (first cap : Array Value) (w : World), (Instr.makeFunc fn first cap).run Tryz.prog w = .ok (.func fn first cap) w := fun _ _ _ _ => rfl
  obtain ⟨tv0, lv0, h0⟩ := h
  have hml := h0.m.lt
  have H := hid (And.intro h0 (And.intro hw (And.intro hc (And.intro hst (And.intro hd hP)))))
  have hbB := h0.bB
  clear h0 hw hc hst hd hP hc0
  go_enter_defers Tryz.func22, Tryz.ntmps22
  go_wp2_with fail
  refine wp_scope_straight ?_
  go_wp2_with (first
    | (go_at_call 42
       refine (optab_any _).mono ?_
       rintro e w' ⟨rfl, e1⟩
       rw [e1]
       clear e1 w'))
  have hb3 : Below w.heap.size w (((w.alloc (.cells #[.pointer (some ⟨mb, 0, none⟩)] 73)).alloc (.cells #[.int .i64 0, .int .i64 0, .slice none 0 0, .slice none 0 0, .slice none 0 0] 40)).alloc opTab) := ((below1 w _).alloc (by simp) _).alloc (by simp; omega) _
  have hRB : RB (((w.alloc (.cells #[.pointer (some ⟨mb, 0, none⟩)] 73)).alloc (.cells #[.int .i64 0, .int .i64 0, .slice none 0 0, .slice none 0 0, .slice none 0 0] 40)).alloc opTab) w.heap.size mb := by
    refine ⟨hp_alloc (hp_alloc (hp_new w _) _) _, ?_, ?_⟩
    · have h1 := hp_alloc (hp_new (w.alloc (.cells #[.pointer (some ⟨mb, 0, none⟩)] 73)) (.cells #[.int .i64 0, .int .i64 0, .slice none 0 0, .slice none 0 0, .slice none 0 0] 40)) opTab
      simpa using h1
    · have h1 := hp_new ((w.alloc (.cells #[.pointer (some ⟨mb, 0, none⟩)] 73)).alloc (.cells #[.int .i64 0, .int .i64 0, .slice none 0 0, .slice none 0 0, .slice none 0 0] 40)) opTab
      simpa using h1
  have HRB := hid (And.intro hb3 hRB)
  clear hb3 hRB
  refine wp_label ?_
  go_wp2_with fail
  go_loopw [6] (fun _ wr => ∃ k : Nat, k ≤ xs.length ∧ Hid (MY wr B mb M k (st k) ∧ RB wr w.heap.size mb ∧ Below B w wr)) (fun _ wr => xs.length - pcOf wr mb)
  case atStart => exact ⟨0, Nat.zero_le _, hid ⟨⟨_, _, H.out.1.below HRB.out.1⟩, HRB.out.2, HRB.out.1.mono hbB⟩⟩
  case round =>
    obtain ⟨k, hk, HR⟩ := hrel
    obtain ⟨tv, lv, hx⟩ := HR.out.1
    have hpc := hx.pc
    obtain ⟨-, -, c2, -⟩ := hx.m.cells
    replace c2 := (show wr.cell? ⟨mb, 2, none⟩ = some (.int .i64 k) from c2)
    have b0 : wr.cell? ⟨w.heap.size, 0, none⟩ = some (.pointer (some ⟨mb, 0, none⟩)) := by rw [cell_of_row _ _ _ _ _ _ HR.out.2.1.b]; rfl
    have hml2 := hx.m.lt
    have hwl := World.block_lt_of_cell? _ _ b0
    by_cases hlt : k < xs.length
    · have i1 : (k : Int) < (xs.length : Int) := by omega
      obtain ⟨ao2, cap2, e, -, hcd⟩ := H.out.2.2.1 wr (H.out.2.1.trans HR.out.2.2)
      injection e with e1 _ e3
      obtain ⟨bc, oc, e4, hce⟩ := hcd (fun e => by rw [e] at hlt; simp at hlt)
      subst e1 e3
      subst e4
      have hkx : xs[k]? = some xs[k] := List.getElem?_eq_getElem hlt
      obtain ⟨x, hxe⟩ : ∃ x, x = xs[k] := ⟨_, rfl⟩
      rw [← hxe] at hkx
      have hia := hce k x hkx
      obtain ⟨o, ho, h1, h2, hgo⟩ := H.out.2.2.2.1 k x hkx
      have hE := op_in o h1 h2
      obtain ⟨F, hF⟩ : ∃ F, F = 62 + o := ⟨_, rfl⟩
      have htf := fun W (hr : RB W w.heap.size mb) => tab_fn hr.t o h1 h2
      rw [← hF] at hE hgo
      simp only [← hF] at htf
      obtain ⟨op, a, b, c, n', vk, vi, vt⟩ := x
      dsimp only at ho
      subst ho
      obtain ⟨x0, x1, x2, x3, x4, x5, x6, x7⟩ := hia
      dsimp only at x0 x1 x2 x3 x4 x5 x6 x7
      have hne : ¬ (o : Int) = 16 := by omega
      have ho16 : (o : Int) < 16 := by omega
      have hbl := World.block_lt_of_cell? _ _ x0
      dsimp only at hbl
      have HX := hid (And.intro hx (And.intro hgo htf))
      clear hx hcd hce hkx hxe hgo htf hF
      go_upto_region 7 with fail
      have HSW := hid (show ∀ wx : World, wx.heap[wr.heap.size]? = some (io o a b c n' vk vi vt) → RB wx w.heap.size mb → wx.cell? ⟨wr.heap.size, 0, none⟩ = some (.int .i64 o) ∧ wx.cell? ⟨wr.heap.size, 1, none⟩ = some (.int .i64 a) ∧ wx.cell? ⟨wr.heap.size, 2, none⟩ = some (.int .i64 b) ∧ wx.cell? ⟨wr.heap.size, 3, none⟩ = some (.int .i64 c) ∧ wx.cell? ⟨wr.heap.size, 4, none⟩ = some (.int .i64 n') ∧ wx.cell? ⟨wr.heap.size, 5, none⟩ = some (.int .i64 vk) ∧ wx.cell? ⟨wr.heap.size, 6, none⟩ = some (.int .i64 vi) ∧ wx.cell? ⟨wr.heap.size, 7, none⟩ = some (.string vt) ∧ wx.cell? ⟨w.heap.size + 1 + 1, o, none⟩ = some (.func (.func F) #[] #[]) ∧ wx.cell? ⟨w.heap.size, 0, none⟩ = some (.pointer (some ⟨mb, 0, none⟩)) from fun wx q1 q2 => by
        obtain ⟨y0, y1, y2, y3, y4, y5, y6, y7⟩ := cells8 q1
        exact ⟨y0, y1, y2, y3, y4, y5, y6, y7, HX.out.2.2 wx q2, by rw [cell_of_row _ _ _ _ _ _ q2.b]; rfl⟩)
      have hb1 : Below wr.heap.size wr (wr.alloc (io o a b c n' vk vi vt)).drew := (below1 wr _).drew
      have HB1 := hid (And.intro (HX.out.1.below hb1) (And.intro (HR.out.2.1.below hb1) (And.intro hb1 (show (wr.alloc (io o a b c n' vk vi vt)).drew.heap[wr.heap.size]? = some (io o a b c n' vk vi vt) from hp_new wr _))))
      have HGO := hid (HX.out.2.1 _ tv lv HB1.out.1 ((H.out.2.1.trans HR.out.2.2).trans (hb1.mono HX.out.1.bB)))
      clear hb1 x0 x1 x2 x3 x4 x5 x6 x7 c2 b0
      go_region_held3 (fun wx => wx.cell? ⟨wr.heap.size, 0, none⟩ = some (.int .i64 o) ∧ wx.cell? ⟨wr.heap.size, 1, none⟩ = some (.int .i64 a) ∧ wx.cell? ⟨wr.heap.size, 2, none⟩ = some (.int .i64 b) ∧ wx.cell? ⟨wr.heap.size, 3, none⟩ = some (.int .i64 c) ∧ wx.cell? ⟨wr.heap.size, 4, none⟩ = some (.int .i64 n') ∧ wx.cell? ⟨wr.heap.size, 5, none⟩ = some (.int .i64 vk) ∧ wx.cell? ⟨wr.heap.size, 6, none⟩ = some (.int .i64 vi) ∧ wx.cell? ⟨wr.heap.size, 7, none⟩ = some (.string vt) ∧ wx.cell? ⟨w.heap.size + 1 + 1, o, none⟩ = some (.func (.func F) #[] #[]) ∧ wx.cell? ⟨w.heap.size, 0, none⟩ = some (.pointer (some ⟨mb, 0, none⟩)))
        (first | exact HSW.out _ HB1.out.2.2.2 HB1.out.2.1 | exact HSW.out _ H2.out.2.2.2 H2.out.2.1)
        (first
        | (go_at_fn F
           refine HGO.out.mono ?_
           rintro e w2 ⟨rfl, hy2, hk2⟩
           have H2 := hid (And.intro hy2 (And.intro (HB1.out.2.1.kept HB1.out.1 hk2) (And.intro hk2 (hpk HB1.out.2.2.2 hk2 (HB1.out.1.notSx HB1.out.2.2.2 (by decide) (by decide) (by decide))))))
           clear hy2 hk2))
      obtain ⟨tv2, lv2, hx2⟩ := H2.out.1
      obtain ⟨-, -, c2, -⟩ := hx2.m.cells
      replace c2 := (show w2.cell? ⟨mb, 2, none⟩ = some (.int .i64 k) from c2)
      have b0 : w2.cell? ⟨w.heap.size, 0, none⟩ = some (.pointer (some ⟨mb, 0, none⟩)) := by rw [cell_of_row _ _ _ _ _ _ H2.out.2.1.b]; rfl
      have hfz := hx2.m.free
      have HX2 := hid hx2
      have hwk : IntKind.i64.wrap ((k : Int) + 1) = (k : Int) + 1 := by rw [IntKind.wrap_i64]; omega
      clear hx2
      go_wp2_with fail
      go_roundw
      case rel =>
        have hn := HX2.out.next ((k : Int) + 1)
        have hrb := H2.out.2.1
        have hbw : Below B w w2 := (HR.out.2.2.trans (HB1.out.2.2.1.mono HX.out.1.bB)).trans (HB1.out.1.keptB H2.out.2.2.1)
        refine ⟨k + 1, by omega, hid ⟨⟨tv2, lv2, by have h3 := hn; push_cast; exact h3⟩, ⟨?_, ?_, ?_⟩, hbw.setCell (p := ⟨mb, 2, none⟩) HX.out.1.ge _⟩⟩
        · exact V.hp_set hrb.b (p := ⟨mb, 2, none⟩) (fun e => by have h4 := HX2.out.m.ex; obtain ⟨cs, h5, -⟩ := h4; dsimp only at e; rw [← e, hrb.b] at h5; cases h5) _
        · exact V.hp_set hrb.e (p := ⟨mb, 2, none⟩) (fun e => by have h4 := HX2.out.m.ex; obtain ⟨cs, h5, -⟩ := h4; dsimp only at e; rw [← e, hrb.e] at h5; cases h5) _
        · exact V.hp_set hrb.t (p := ⟨mb, 2, none⟩) (fun e => by have h4 := HX2.out.m.ex; obtain ⟨cs, h5, -⟩ := h4; dsimp only at e; rw [← e, hrb.t] at h5; cases h5) _
      case measure =>
        have hn := (HX2.out.next ((k : Int) + 1)).pc
        have hp0 : pcOf wr mb = k := by rw [hpc]; rfl
        rw [hn, hp0]
        show xs.length - (((k : Int) + 1)).toNat < xs.length - k
        omega
    · obtain rfl : xs.length = k := by omega
      have i1 : ¬ (xs.length : Int) < (xs.length : Int) := by omega
      have HD := hid (H.out.2.2.2.2.1 wr tv lv hx HR.out.2.1 (H.out.2.1.trans HR.out.2.2))
      have HX := hid hx
      clear hx
      go_wp2_with (
        go_at_call 43
        refine HD.out.mono ?_
        rintro e w2 ⟨t1, n1, k1, t2, n2, k2, t3, n3, k3, rfl, hP2, hb2⟩
        have hr2 := HR.out.2.1.below hb2
        obtain ⟨f0, f1, f2, f3, f4, f5⟩ := cells5f hr2.e
        have hz2 := hp_lt hr2.e
        have H2 := hid (And.intro hP2 (And.intro hb2 hr2))
        clear hP2 hb2 hr2)
      simp only [Exit.noGoto]
      refine leaves_cons (f := 41) (args := #[.pointer (some ⟨w.heap.size, 0, none⟩), .pointer (some ⟨w.heap.size + 1, 0, none⟩)]) (by simp) (by simp [go_sem]) ?_
      refine (catch_idle _ _ _).mono ?_
      rintro e u' w3 ⟨rfl, rfl, e3⟩
      rw [e3]
      have hk9 : Kept (fun k => k = w.heap.size + 1) w2 (((((w2.setCell ⟨w.heap.size + 1, 0, none⟩ (.int .i64 1)).setCell ⟨w.heap.size + 1, 1, none⟩ (.int .i64 0)).setCell ⟨w.heap.size + 1, 2, none⟩ (.slice t1 n1 k1)).setCell ⟨w.heap.size + 1, 3, none⟩ (.slice t2 n2 k2)).setCell ⟨w.heap.size + 1, 4, none⟩ (.slice t3 n3 k3)) := (((((Kept.refl (fun k => k = w.heap.size + 1) w2).setCell (p := ⟨w.heap.size + 1, 0, none⟩) (fun _ => rfl) _).setCell (p := ⟨w.heap.size + 1, 1, none⟩) (fun _ => rfl) _).setCell (p := ⟨w.heap.size + 1, 2, none⟩) (fun _ => rfl) _).setCell (p := ⟨w.heap.size + 1, 3, none⟩) (fun _ => rfl) _).setCell (p := ⟨w.heap.size + 1, 4, none⟩) (fun _ => rfl) _
      exact ⟨_, ret_eff (set5 H2.out.2.2.e _ _ _ _ _), _, rfl, H.out.2.2.2.2.2 _ _ _ H2.out.1 hk9, (HR.out.2.2.trans (H2.out.2.1.mono HX.out.bB)).trans (hk9.below (Nat.le_trans HX.out.bB H2.out.2.1.size) (fun k hk e => by omega))⟩
set_option maxHeartbeats 4000000 in
theorem catch_ref (r mb : Nat) (pc E : Int) (al : Option Addr) (n cl : Nat) (w : World) (hr : RB w r mb) (c2 : w.cell? ⟨mb, 2, none⟩ = some (.int .i64 pc)) (c5 : w.cell? ⟨mb, 53, none⟩ = some (.slice al n cl)) :
    CallsD Tryz.prog 41 #[.pointer (some ⟨r, 0, none⟩), .pointer (some ⟨r + 1, 0, none⟩)] (.panicking [{ v := .iface 105 (.agg #[.int .i64 E]), recovered := false }]) w fun e u' w' =>
      e = .returned (.tuple #[]) ∧ u' = .panicking [{ v := .iface 105 (.agg #[.int .i64 E]), recovered := true }] ∧ w'.heap[r + 1]? = some (.cells #[.int .i64 E, .int .i64 pc, .slice none 0 0, .slice none 0 0, .slice al n cl] 40 (0, 0)) ∧ Kept (fun k => k = r + 1) w w' := by
  have h1 := eqRef E
  have h4 := taRef
  have b0 : w.cell? ⟨r, 0, none⟩ = some (.pointer (some ⟨mb, 0, none⟩)) := by rw [cell_of_row _ _ _ _ _ _ hr.b]; rfl
  obtain ⟨f0, f1, f2, f3, f4, f5⟩ := cells5f hr.e
  have hl1 := hp_lt hr.b
  have hl2 := hp_lt hr.e
  have hl3 := World.block_lt_of_cell? _ _ c2
  have HE := hid hr.e
  clear hr
  refine callsD_of_wpS Tryz.func41 rfl fun c₀ cs hu => ?_
  apply wpS_seq
  apply wpS_region
  simp [wpOpsS, go_sem, recoverD, hu, Tryz.ntmps41, Exit.thenS]
  refine wpS_of_wp ?_
  have hT : (#[Value.pointer (some ⟨r, 0, none⟩), Value.pointer (some ⟨r + 1, 0, none⟩)] ++ (Array.replicate 21 undef).setIfInBounds 3 (Value.iface 105 (.agg #[.int .i64 E]))) = #[Value.pointer (some ⟨r, 0, none⟩), Value.pointer (some ⟨r + 1, 0, none⟩), undef, undef, undef, Value.iface 105 (.agg #[.int .i64 E]), undef, undef, undef, undef, undef, undef, undef, undef, undef, undef, undef, undef, undef, undef, undef, undef, undef] := by kernel_rfl
  rw [hT]
  clear hT
  refine Code.wp_mono NoPanic.imp ?_
  go_wp2
  go_region
  have hk9 : Kept (fun k => k = r + 1) w (((((w.setCell ⟨r + 1, 0, none⟩ (.int .i64 E)).setCell ⟨r + 1, 1, none⟩ (.int .i64 pc)).setCell ⟨r + 1, 2, none⟩ (.slice none 0 0)).setCell ⟨r + 1, 3, none⟩ (.slice none 0 0)).setCell ⟨r + 1, 4, none⟩ (.slice al n cl)) := (((((Kept.refl (fun k => k = r + 1) w).setCell (p := ⟨r + 1, 0, none⟩) (fun _ => rfl) _).setCell (p := ⟨r + 1, 1, none⟩) (fun _ => rfl) _).setCell (p := ⟨r + 1, 2, none⟩) (fun _ => rfl) _).setCell (p := ⟨r + 1, 3, none⟩) (fun _ => rfl) _).setCell (p := ⟨r + 1, 4, none⟩) (fun _ => rfl) _
  refine NoPanic.normal (NoPanic.normal ?_)
  exact ⟨rfl, _, rfl, .tuple #[], by simp [results, Tryz.results41], rfl, rfl, hp_alloc (set5 HE.out _ _ _ _ _) _, (hk9.alloc _).drew⟩
end Go.Proofs.YthcoigbkdbkojabGreat
namespace Go.Proofs.YthcoigbkdbkojabGreat
open Go.RowKit Go.MapKept
open V (hp_new hp_lt hp_below hp_alloc kl)
def runQ (sq : Nat → Ins → Qm → Qr) (xs : List Ins) : Nat → Nat → Qm → Qr
  | 0, _, q => (q, 0, 1)
  | n + 1, k, q => match xs[k]? with
    | none => (q, 0, 1)
    | some x => if x.op = 16 then (q, 0, 1) else if (sq k x q).2.2 = 0 then runQ sq xs n ((sq k x q).2.1.toNat + 1) (sq k x q).1 else sq k x q
structure RunH (ws : World) (B mb M : Nat) (vw av : Value) (xs : List Ins) (sq : Nat → Ins → Qm → Qr) (J : Nat → Qm → Prop) : Prop where
  st : ∀ k x q, J k q → xs[k]? = some x → x.op ≠ 16 → ∃ o : Nat, x.op = o ∧ 1 ≤ o ∧ o ≤ 15 ∧ ∀ W tv lv, MX W B mb ((q.mc vw av).ms k tv lv M) q.td q.lk M (kvV q.l) → Below B ws W → Calls Tryz.prog (62 + o) #[.pointer (some ⟨mb, 0, none⟩), x.val] W (StP B W mb M vw av ((q.mc vw av).ms k tv lv M) (sq k x q))
  go : ∀ k x q, J k q → xs[k]? = some x → x.op ≠ 16 → (sq k x q).2.2 = 0 → ∃ k' : Nat, (sq k x q).2.1 = k' ∧ k ≤ k' ∧ k' < xs.length ∧ J (k' + 1) (sq k x q).1
  no : ∀ k x q, J k q → xs[k]? = some x → x.op ≠ 16 → (sq k x q).2.2 ≠ 0 → (sq k x q).2.1 = k
set_option maxHeartbeats 12800000 in
theorem run_any (ws w : World) (B mb M : Nat) (vw av : Value) (xs : List Ins) (sq : Nat → Ins → Qm → Qr) (J : Nat → Qm → Prop) (q0 : Qm) (code : Value) (P : Qr → Value → World → Prop) (h : MY w B mb M 0 (q0.mc vw av)) (h0J : J 0 q0) (hw : Below B ws w) (hl : xs.length ≤ 64)
    (hc : ∀ W, Below B ws W → CodeAt W code xs) (hst : RunH ws B mb M vw av xs sq J)
    (hd : ∀ W tv lv k q, J k q → MX W B mb ((q.mc vw av).ms k tv lv M) q.td q.lk M (kvV q.l) → RB W w.heap.size mb → Below B ws W → Calls Tryz.prog 43 #[.pointer (some ⟨mb, 0, none⟩)] W fun e w' => ∃ t1 n1 k1 t2 n2 k2 t3 n3 k3, e = .returned (.agg #[.int .i64 1, .int .i64 0, .slice t1 n1 k1, .slice t2 n2 k2, .slice t3 n3 k3]) ∧ P (q, 0, 1) (.agg #[.int .i64 1, .int .i64 0, .slice t1 n1 k1, .slice t2 n2 k2, .slice t3 n3 k3]) w' ∧ Below W.heap.size W w')
    (hg : ∀ W tv al n cl (k : Nat) q st, MX W B mb ((q.mc vw av).ms k tv (.slice al n cl) M) q.td q.lk M (kvV q.l) → RB W w.heap.size mb → st ≠ 0 → (∃ k0 x q0, J k0 q0 ∧ xs[k0]? = some x ∧ x.op ≠ 16 ∧ sq k0 x q0 = (q, (k : Int), st)) → P (q, (k : Int), st) (.agg #[.int .i64 st, .int .i64 k, .slice none 0 0, .slice none 0 0, .slice al n cl]) W)
    (hP : ∀ r v W W', P r v W → Kept (fun k => k = w.heap.size + 1) W W' → P r v W') :
    Calls Tryz.prog 22 #[.pointer (some ⟨mb, 0, none⟩), code] w fun e w' => ∃ v, e = .returned v ∧ P (runQ sq xs (xs.length + 1) 0 q0) v w' ∧ Below B w w' := by
  obtain ⟨ao, cap, rfl, hcap, hc0⟩ := hc w hw
  have hmf : ∀ (fn : Fn) (first cap : Array Value) (w : World), (Instr.makeFunc fn first cap).run Tryz.prog w = .ok (.func fn first cap) w := fun _ _ _ _ => rfl
  obtain ⟨tv0, lv0, h0⟩ := h
  have hml := h0.m.lt
  have H := hid (And.intro h0 (And.intro hw (And.intro hc (And.intro hst (And.intro hd (And.intro hg hP))))))
  have hbB := h0.bB
  have HJ0 := hid h0J
  obtain ⟨RR, hRR⟩ : ∃ RR, RR = runQ sq xs (xs.length + 1) 0 q0 := ⟨_, rfl⟩
  rw [← hRR]
  have HRR := hid hRR
  clear h0 hw hc hst hd hg hP hc0 h0J hRR
  go_enter_defers Tryz.func22, Tryz.ntmps22
  go_wp2_with fail
  refine wp_scope_straight ?_
  go_wp2_with (first
    | (go_at_call 42
       refine (optab_any _).mono ?_
       rintro e w' ⟨rfl, e1⟩
       rw [e1]
       clear e1 w'))
  have hb3 : Below w.heap.size w (((w.alloc (.cells #[.pointer (some ⟨mb, 0, none⟩)] 73)).alloc (.cells #[.int .i64 0, .int .i64 0, .slice none 0 0, .slice none 0 0, .slice none 0 0] 40)).alloc opTab) := ((below1 w _).alloc (by simp) _).alloc (by simp; omega) _
  have hRB : RB (((w.alloc (.cells #[.pointer (some ⟨mb, 0, none⟩)] 73)).alloc (.cells #[.int .i64 0, .int .i64 0, .slice none 0 0, .slice none 0 0, .slice none 0 0] 40)).alloc opTab) w.heap.size mb := by
    refine ⟨hp_alloc (hp_alloc (hp_new w _) _) _, ?_, ?_⟩
    · have h1 := hp_alloc (hp_new (w.alloc (.cells #[.pointer (some ⟨mb, 0, none⟩)] 73)) (.cells #[.int .i64 0, .int .i64 0, .slice none 0 0, .slice none 0 0, .slice none 0 0] 40)) opTab
      simpa using h1
    · have h1 := hp_new ((w.alloc (.cells #[.pointer (some ⟨mb, 0, none⟩)] 73)).alloc (.cells #[.int .i64 0, .int .i64 0, .slice none 0 0, .slice none 0 0, .slice none 0 0] 40)) opTab
      simpa using h1
  have HRB0 := hid (And.intro hb3 hRB)
  clear hb3 hRB
  refine wp_label ?_
  go_wp2_with fail
  go_loopw [6] (fun _ wr => ∃ (k n : Nat) (q : Qm), k ≤ xs.length ∧ Hid (MY wr B mb M k (q.mc vw av) ∧ RB wr w.heap.size mb ∧ Below B w wr ∧ J k q ∧ xs.length < n + k ∧ RR = runQ sq xs n k q)) (fun _ wr => xs.length - pcOf wr mb)
  case atStart => exact ⟨0, xs.length + 1, q0, Nat.zero_le _, hid ⟨⟨_, _, H.out.1.below HRB0.out.1⟩, HRB0.out.2, HRB0.out.1.mono hbB, HJ0.out, by omega, HRR.out⟩⟩
  case round =>
    obtain ⟨k, n, q, hk, HR⟩ := hrel
    obtain ⟨tv, lv, hx⟩ := HR.out.1
    have hJ := HR.out.2.2.2.1
    have hpc := hx.pc
    obtain ⟨-, -, c2, -⟩ := hx.m.cells
    replace c2 := (show wr.cell? ⟨mb, 2, none⟩ = some (.int .i64 k) from c2)
    have b0 : wr.cell? ⟨w.heap.size, 0, none⟩ = some (.pointer (some ⟨mb, 0, none⟩)) := by rw [cell_of_row _ _ _ _ _ _ HR.out.2.1.b]; rfl
    have hml2 := hx.m.lt
    have hwl := World.block_lt_of_cell? _ _ b0
    by_cases hlt : k < xs.length
    · have i1 : (k : Int) < (xs.length : Int) := by omega
      obtain ⟨ao2, cap2, e, -, hcd⟩ := H.out.2.2.1 wr (H.out.2.1.trans HR.out.2.2.1)
      injection e with e1 _ e3
      obtain ⟨bc, oc, e4, hce⟩ := hcd (fun e => by rw [e] at hlt; simp at hlt)
      subst e1 e3
      subst e4
      have hkx : xs[k]? = some xs[k] := List.getElem?_eq_getElem hlt
      obtain ⟨x, hxe⟩ : ∃ x, x = xs[k] := ⟨_, rfl⟩
      rw [← hxe] at hkx
      have hia := hce k x hkx
      obtain ⟨n, rfl⟩ : ∃ n', n = n' + 1 := ⟨n - 1, by have := HR.out.2.2.2.2.1; omega⟩
      have hrq := HR.out.2.2.2.2.2
      unfold runQ at hrq
      rw [hkx] at hrq
      dsimp only at hrq
      by_cases h16 : x.op = 16
      · rw [if_pos h16] at hrq
        clear hcd hce hkx hxe
        obtain ⟨op, a, b, c, n', vk, vi, vt⟩ := x
        dsimp only at h16
        subst h16
        obtain ⟨x0, x1, x2, x3, x4, x5, x6, x7⟩ := hia
        dsimp only at x0 x1 x2 x3 x4 x5 x6 x7
        have hbl := World.block_lt_of_cell? _ _ x0
        dsimp only at hbl
        have hb1 : Below wr.heap.size wr (wr.alloc (io 16 a b c n' vk vi vt)) := below1 wr _
        have HRB := hid (HR.out.2.1.below hb1)
        have HBW := hid (And.intro (HR.out.2.2.1.trans (hb1.mono hx.bB)) (Nat.le_trans hx.bB hb1.size))
        have HD := hid (H.out.2.2.2.2.1 _ tv lv k q hJ (hx.below hb1) HRB.out ((H.out.2.1.trans HR.out.2.2.1).trans (hb1.mono hx.bB)))
        have b0' : (wr.alloc (io 16 a b c n' vk vi vt)).cell? ⟨w.heap.size, 0, none⟩ = some (.pointer (some ⟨mb, 0, none⟩)) := by rw [cell_of_row _ _ _ _ _ _ HRB.out.b]; rfl
        have HQ := hid hrq
        clear hx hJ hrq hb1
        go_wp2_with (
          go_at_call 43
          refine HD.out.mono ?_
          rintro e w2 ⟨t1, n1, k1, t2, n2, k2, t3, n3, k3, rfl, hP2, hb2⟩
          have hr2 := HRB.out.below hb2
          obtain ⟨f0, f1, f2, f3, f4, f5⟩ := cells5f hr2.e
          have hz2 := hp_lt hr2.e
          have H2 := hid (And.intro hP2 (And.intro hb2 hr2))
          clear hP2 hb2 hr2)
        simp only [Exit.noGoto]
        refine leaves_cons (f := 41) (args := #[.pointer (some ⟨w.heap.size, 0, none⟩), .pointer (some ⟨w.heap.size + 1, 0, none⟩)]) (by simp) (by simp [go_sem]) ?_
        refine (catch_idle _ _ _).mono ?_
        rintro e u' w3 ⟨rfl, rfl, e3⟩
        rw [e3]
        have hk9 : Kept (fun k => k = w.heap.size + 1) w2 (((((w2.setCell ⟨w.heap.size + 1, 0, none⟩ (.int .i64 1)).setCell ⟨w.heap.size + 1, 1, none⟩ (.int .i64 0)).setCell ⟨w.heap.size + 1, 2, none⟩ (.slice t1 n1 k1)).setCell ⟨w.heap.size + 1, 3, none⟩ (.slice t2 n2 k2)).setCell ⟨w.heap.size + 1, 4, none⟩ (.slice t3 n3 k3)) := (((((Kept.refl (fun k => k = w.heap.size + 1) w2).setCell (p := ⟨w.heap.size + 1, 0, none⟩) (fun _ => rfl) _).setCell (p := ⟨w.heap.size + 1, 1, none⟩) (fun _ => rfl) _).setCell (p := ⟨w.heap.size + 1, 2, none⟩) (fun _ => rfl) _).setCell (p := ⟨w.heap.size + 1, 3, none⟩) (fun _ => rfl) _).setCell (p := ⟨w.heap.size + 1, 4, none⟩) (fun _ => rfl) _
        have hbw : Below B w w2 := (HBW.out.1).trans (H2.out.2.1.mono HBW.out.2)
        exact ⟨_, ret_eff (set5 H2.out.2.2.e _ _ _ _ _), _, rfl, by rw [HQ.out]; exact H.out.2.2.2.2.2.2 _ _ _ _ H2.out.1 hk9, hbw.trans (hk9.below (Nat.le_trans hbB hbw.size) (fun k hk e => by omega))⟩
      · rw [if_neg h16] at hrq
        obtain ⟨o, ho, h1, h2, hgo⟩ := H.out.2.2.2.1.st k x q hJ hkx h16
        have hgg := H.out.2.2.2.1.go k x q hJ hkx h16
        have hnn := H.out.2.2.2.1.no k x q hJ hkx h16
        have HWH := hid (show ∃ k0 x0 q0, J k0 q0 ∧ xs[k0]? = some x0 ∧ x0.op ≠ 16 ∧ sq k0 x0 q0 = sq k x q from ⟨k, x, q, hJ, hkx, h16, rfl⟩)
        have hE := op_in o h1 h2
        obtain ⟨F, hF⟩ : ∃ F, F = 62 + o := ⟨_, rfl⟩
        have htf := fun W (hr : RB W w.heap.size mb) => tab_fn hr.t o h1 h2
        rw [← hF] at hE hgo
        simp only [← hF] at htf
        obtain ⟨⟨q', pc', st⟩, hsq⟩ : ∃ r, r = sq k x q := ⟨_, rfl⟩
        rw [← hsq] at hgo hrq hgg hnn HWH
        dsimp only at hgo hrq hgg hnn HWH
        clear hsq h16
        obtain ⟨op, a, b, c, n', vk, vi, vt⟩ := x
        dsimp only at ho
        subst ho
        obtain ⟨x0, x1, x2, x3, x4, x5, x6, x7⟩ := hia
        dsimp only at x0 x1 x2 x3 x4 x5 x6 x7
        have hne : ¬ (o : Int) = 16 := by omega
        have ho16 : (o : Int) < 16 := by omega
        have hbl := World.block_lt_of_cell? _ _ x0
        dsimp only at hbl
        have HX := hid (And.intro hx (And.intro hgo htf))
        clear hx hcd hce hkx hxe hgo htf hF
        have HSW := hid (show ∀ wx : World, wx.heap[wr.heap.size]? = some (io o a b c n' vk vi vt) → RB wx w.heap.size mb → wx.cell? ⟨wr.heap.size, 0, none⟩ = some (.int .i64 o) ∧ wx.cell? ⟨wr.heap.size, 1, none⟩ = some (.int .i64 a) ∧ wx.cell? ⟨wr.heap.size, 2, none⟩ = some (.int .i64 b) ∧ wx.cell? ⟨wr.heap.size, 3, none⟩ = some (.int .i64 c) ∧ wx.cell? ⟨wr.heap.size, 4, none⟩ = some (.int .i64 n') ∧ wx.cell? ⟨wr.heap.size, 5, none⟩ = some (.int .i64 vk) ∧ wx.cell? ⟨wr.heap.size, 6, none⟩ = some (.int .i64 vi) ∧ wx.cell? ⟨wr.heap.size, 7, none⟩ = some (.string vt) ∧ wx.cell? ⟨w.heap.size + 1 + 1, o, none⟩ = some (.func (.func F) #[] #[]) ∧ wx.cell? ⟨w.heap.size, 0, none⟩ = some (.pointer (some ⟨mb, 0, none⟩)) from fun wx q1 q2 => by
          obtain ⟨y0, y1, y2, y3, y4, y5, y6, y7⟩ := cells8 q1
          exact ⟨y0, y1, y2, y3, y4, y5, y6, y7, HX.out.2.2 wx q2, by rw [cell_of_row _ _ _ _ _ _ q2.b]; rfl⟩)
        have hb1 : Below wr.heap.size wr (wr.alloc (io o a b c n' vk vi vt)).drew := (below1 wr _).drew
        have HB1 := hid (And.intro (HX.out.1.below hb1) (And.intro (HR.out.2.1.below hb1) (And.intro hb1 (show (wr.alloc (io o a b c n' vk vi vt)).drew.heap[wr.heap.size]? = some (io o a b c n' vk vi vt) from hp_new wr _))))
        have HGO := hid (HX.out.2.1 _ tv lv HB1.out.1 ((H.out.2.1.trans HR.out.2.2.1).trans (hb1.mono HX.out.1.bB)))
        clear hb1
        by_cases hst0 : st = 0
        · subst hst0
          rw [if_pos rfl] at hrq
          obtain ⟨k', hk', hkk, hkl, hJ'⟩ := hgg rfl
          subst hk'
          rw [Int.toNat_natCast] at hrq
          have HQ := hid (And.intro hrq (And.intro hJ' (And.intro hkk hkl)))
          have hk64 : k' < 64 := by omega
          clear hrq hgg hnn hJ' HWH hJ hkk
          go_upto_region 7 with fail
          clear x0 x1 x2 x3 x4 x5 x6 x7 c2 b0
          go_region_held3 (fun wx => wx.cell? ⟨wr.heap.size, 0, none⟩ = some (.int .i64 o) ∧ wx.cell? ⟨wr.heap.size, 1, none⟩ = some (.int .i64 a) ∧ wx.cell? ⟨wr.heap.size, 2, none⟩ = some (.int .i64 b) ∧ wx.cell? ⟨wr.heap.size, 3, none⟩ = some (.int .i64 c) ∧ wx.cell? ⟨wr.heap.size, 4, none⟩ = some (.int .i64 n') ∧ wx.cell? ⟨wr.heap.size, 5, none⟩ = some (.int .i64 vk) ∧ wx.cell? ⟨wr.heap.size, 6, none⟩ = some (.int .i64 vi) ∧ wx.cell? ⟨wr.heap.size, 7, none⟩ = some (.string vt) ∧ wx.cell? ⟨w.heap.size + 1 + 1, o, none⟩ = some (.func (.func F) #[] #[]) ∧ wx.cell? ⟨w.heap.size, 0, none⟩ = some (.pointer (some ⟨mb, 0, none⟩)))
            (first | exact HSW.out _ HB1.out.2.2.2 HB1.out.2.1 | exact HSW.out _ H2.out.2.2.2 H2.out.2.1)
            (first
            | (go_at_fn F
               refine HGO.out.mono ?_
               rintro e w2 ⟨e9, hy2, hk2⟩
               obtain rfl := (show e = .returned (.tuple #[]) from e9)
               clear e9
               have H2 := hid (And.intro hy2 (And.intro (HB1.out.2.1.kept HB1.out.1 hk2) (And.intro hk2 (hpk HB1.out.2.2.2 hk2 (HB1.out.1.notSx HB1.out.2.2.2 (by decide) (by decide) (by decide))))))
               clear hy2 hk2))
          obtain ⟨tv2, lv2, hx2⟩ := H2.out.1
          obtain ⟨-, -, c2, -⟩ := hx2.m.cells
          replace c2 := (show w2.cell? ⟨mb, 2, none⟩ = some (.int .i64 k') from c2)
          have b0 : w2.cell? ⟨w.heap.size, 0, none⟩ = some (.pointer (some ⟨mb, 0, none⟩)) := by rw [cell_of_row _ _ _ _ _ _ H2.out.2.1.b]; rfl
          have hfz := hx2.m.free
          have HX2 := hid hx2
          have hwk : IntKind.i64.wrap ((k' : Int) + 1) = (k' : Int) + 1 := by rw [IntKind.wrap_i64]; omega
          clear hx2
          go_wp2_with fail
          go_roundw
          case rel =>
            have hn := HX2.out.next ((k' : Int) + 1)
            have hrb := H2.out.2.1
            have hbw : Below B w w2 := (HR.out.2.2.1.trans (HB1.out.2.2.1.mono HX.out.1.bB)).trans (HB1.out.1.keptB H2.out.2.2.1)
            refine ⟨k' + 1, n, q', by omega, hid ⟨⟨tv2, lv2, by have h3 := hn; push_cast; exact h3⟩, ⟨?_, ?_, ?_⟩, hbw.setCell (p := ⟨mb, 2, none⟩) HX.out.1.ge _, HQ.out.2.1, by have h5 := HR.out.2.2.2.2.1; have h6 := HQ.out.2.2.1; omega, HQ.out.1⟩⟩
            · exact V.hp_set hrb.b (p := ⟨mb, 2, none⟩) (fun e => by have h4 := HX2.out.m.ex; obtain ⟨cs, h5, -⟩ := h4; dsimp only at e; rw [← e, hrb.b] at h5; cases h5) _
            · exact V.hp_set hrb.e (p := ⟨mb, 2, none⟩) (fun e => by have h4 := HX2.out.m.ex; obtain ⟨cs, h5, -⟩ := h4; dsimp only at e; rw [← e, hrb.e] at h5; cases h5) _
            · exact V.hp_set hrb.t (p := ⟨mb, 2, none⟩) (fun e => by have h4 := HX2.out.m.ex; obtain ⟨cs, h5, -⟩ := h4; dsimp only at e; rw [← e, hrb.t] at h5; cases h5) _
          case measure =>
            have hn := (HX2.out.next ((k' : Int) + 1)).pc
            have hp0 : pcOf wr mb = k := by rw [hpc]; rfl
            rw [hn, hp0]
            show xs.length - (((k' : Int) + 1)).toNat < xs.length - k
            have h6 := HQ.out.2.2.1
            omega
        · rw [if_neg hst0] at hrq
          have hpk' := hnn hst0
          subst hpk'
          have HQ := hid (And.intro hrq hst0)
          clear hrq hgg hnn hJ hst0
          go_upto_region 7 with fail
          clear x0 x1 x2 x3 x4 x5 x6 x7 c2 b0
          obtain ⟨y0, y1, y2, y3, y4, y5, y6, y7, y8, y9⟩ := HSW.out _ HB1.out.2.2.2 HB1.out.2.1
          refine wp_region_still_tail 7 (by kernel_rfl) (by kernel_rfl) ?_
          simp only [List.take_succ_cons, List.take_zero, List.drop_succ_cons, List.drop_zero]
          change wpStill _ _ (wr.alloc (io o a b c n' vk vi vt)).drew _ _ _
          repeat still_step
          refine wpStill_nil ?_
          go_wp2_with (
            go_at_fn F
            refine HGO.out.mono ?_
            rintro e w2 ⟨e9, ⟨tv2, lv2, hx2⟩, hk2⟩
            dsimp only at e9
            rw [if_neg HQ.out.2] at e9
            subst e9
            have hrb := HB1.out.2.1.kept HB1.out.1 hk2
            obtain ⟨-, -, c2, -, -, c5⟩ := hx2.m.cells
            obtain ⟨al, cl, hlv⟩ := own_shape hx2.lk
            rw [hlv] at c5
            replace c2 := (show w2.cell? ⟨mb, 2, none⟩ = some (.int .i64 k) from c2)
            rw [show lv2 = .slice al q'.lk.length cl from hlv] at hx2
            have H2 := hid (And.intro hx2 (And.intro hk2 hrb))
            clear hx2 hk2 hrb hlv)
          simp only [Exit.noGoto]
          refine leaves_cons (f := 41) (args := #[.pointer (some ⟨w.heap.size, 0, none⟩), .pointer (some ⟨w.heap.size + 1, 0, none⟩)]) (by simp) (by simp [go_sem]) ?_
          refine (catch_ref w.heap.size mb k st _ _ _ w2 H2.out.2.2 c2 c5).mono ?_
          rintro e u' w3 ⟨rfl, rfl, h3, hk3⟩
          have hbw : Below B w w2 := (HR.out.2.2.1.trans (HB1.out.2.2.1.mono HX.out.1.bB)).trans (HB1.out.1.keptB H2.out.2.1)
          exact ⟨_, ret_eff h3, _, rfl, by rw [HQ.out.1]; exact H.out.2.2.2.2.2.2 _ _ _ _ (H.out.2.2.2.2.2.1 _ _ _ _ _ _ _ _ H2.out.1 H2.out.2.2 HQ.out.2 (by obtain ⟨k0, x0, q0, z1, z2, z3, z4⟩ := HWH.out; exact ⟨k0, x0, q0, z1, z2, z3, z4⟩)) hk3, hbw.trans (hk3.below (Nat.le_trans hbB hbw.size) (fun k hk e => by omega))⟩
    · obtain rfl : xs.length = k := by omega
      have i1 : ¬ (xs.length : Int) < (xs.length : Int) := by omega
      have hrq : RR = (q, 0, 1) := by
        have h5 := HR.out.2.2.2.2.2
        obtain ⟨n, rfl⟩ : ∃ n', n = n' + 1 := ⟨n - 1, by have := HR.out.2.2.2.2.1; omega⟩
        unfold runQ at h5
        rw [List.getElem?_eq_none (Nat.le_refl _)] at h5
        exact h5
      have HRB := hid HR.out.2.1
      have HBW := hid (And.intro HR.out.2.2.1 hx.bB)
      have HD := hid (H.out.2.2.2.2.1 wr tv lv xs.length q hJ hx HR.out.2.1 (H.out.2.1.trans HR.out.2.2.1))
      have HQ := hid hrq
      clear hx hJ hrq
      go_wp2_with (
        go_at_call 43
        refine HD.out.mono ?_
        rintro e w2 ⟨t1, n1, k1, t2, n2, k2, t3, n3, k3, rfl, hP2, hb2⟩
        have hr2 := HRB.out.below hb2
        obtain ⟨f0, f1, f2, f3, f4, f5⟩ := cells5f hr2.e
        have hz2 := hp_lt hr2.e
        have H2 := hid (And.intro hP2 (And.intro hb2 hr2))
        clear hP2 hb2 hr2)
      simp only [Exit.noGoto]
      refine leaves_cons (f := 41) (args := #[.pointer (some ⟨w.heap.size, 0, none⟩), .pointer (some ⟨w.heap.size + 1, 0, none⟩)]) (by simp) (by simp [go_sem]) ?_
      refine (catch_idle _ _ _).mono ?_
      rintro e u' w3 ⟨rfl, rfl, e3⟩
      rw [e3]
      have hk9 : Kept (fun k => k = w.heap.size + 1) w2 (((((w2.setCell ⟨w.heap.size + 1, 0, none⟩ (.int .i64 1)).setCell ⟨w.heap.size + 1, 1, none⟩ (.int .i64 0)).setCell ⟨w.heap.size + 1, 2, none⟩ (.slice t1 n1 k1)).setCell ⟨w.heap.size + 1, 3, none⟩ (.slice t2 n2 k2)).setCell ⟨w.heap.size + 1, 4, none⟩ (.slice t3 n3 k3)) := (((((Kept.refl (fun k => k = w.heap.size + 1) w2).setCell (p := ⟨w.heap.size + 1, 0, none⟩) (fun _ => rfl) _).setCell (p := ⟨w.heap.size + 1, 1, none⟩) (fun _ => rfl) _).setCell (p := ⟨w.heap.size + 1, 2, none⟩) (fun _ => rfl) _).setCell (p := ⟨w.heap.size + 1, 3, none⟩) (fun _ => rfl) _).setCell (p := ⟨w.heap.size + 1, 4, none⟩) (fun _ => rfl) _
      have hbw : Below B w w2 := (HBW.out.1).trans (H2.out.2.1.mono HBW.out.2)
      exact ⟨_, ret_eff (set5 H2.out.2.2.e _ _ _ _ _), _, rfl, by rw [HQ.out]; exact H.out.2.2.2.2.2.2 _ _ _ _ H2.out.1 hk9, hbw.trans (hk9.below (Nat.le_trans hbB hbw.size) (fun k hk e => by omega))⟩
end Go.Proofs.YthcoigbkdbkojabGreat
namespace Go.Proofs.YthcoigbkdbkojabGreat
open Go.RowKit Go.Maps Go.Sort Go.Shelf
theorem Tsorts99 (m : Nat) : AnyZ.SortsIn Tryz.prog Tryz.sorted99_ren Fence.wide m :=
  ⟨fun blk off cap ss W hH hblk hsz => callsIn_wide.2 (AnyM.slices_Sort_string Tryz.sort137 blk off cap ss W hH hblk hsz),
   fun p cap W => callsIn_wide.2 (AnyM.slices_Sort_string_none Tryz.sort137 p cap W)⟩
theorem Tmaps_Keys_100 (mb : Option Nat) (W : World) : CallsIn Fence.wide 5 Tryz.prog 79 #[.map mb] W fun e w' => e = .returned (.func (.func 108) #[] #[.pointer (some ⟨W.heap.size, 0, none⟩)]) ∧ w' = W.alloc (.cells #[.map mb] 74) :=
  AnyZ.keys_in Tryz.keys100 Fence.wide 5 trivial rfl mb W
set_option maxHeartbeats 1000000 in
theorem Tslices_Sorted_keys_99_100 {H : Type} (b nn : Nat) (D0 : DataW H) (R : Value → Option (DataW H × List MemPlace)) (w : World) (hown : w.ownsMap Tryz.prog 9 R b nn D0) (hmax : Maps.size D0 ≤ maxLen) (hbytes : Maps.size D0 * 16 ≤ 140737488355328) :
    CallsIn Fence.wide 5 Tryz.prog 78 #[.func (.func 108) #[] #[.pointer (some ⟨w.heap.size, 0, none⟩)]] (w.alloc (.cells #[.map (some b)] 74)) fun e w' => ∃ (v : Value) (ss : List (List UInt8)), e = .returned v ∧ ss.Perm (strKeys D0) ∧
      w'.ownsRow (w.alloc (.cells #[.map (some b)] 74)).heap.size 9 1 v ss.length ((ss.mergeSort (fun x y => decide (x ≤ y))).map encStr) ∧ (v = .slice none 0 0 ↔ ss = []) ∧ Below (w.alloc (.cells #[.map (some b)] 74)).heap.size (w.alloc (.cells #[.map (some b)] 74)) w' := by
  have hbl := hown.lt
  have hseq : SeqGives Fence.wide 2 Tryz.prog 108 #[.pointer (some ⟨w.heap.size, 0, none⟩)] encStr (fun ss => ss.Perm (strKeys D0)) (Maps.size D0) (w.alloc (.cells #[.map (some b)] 74)) :=
    AnyZ.keys_gives (ρ := Tryz.keys100_ren) { Tryz.keys100 with } Fence.wide _ trivial rfl (by omega) w.heap.size b nn D0 _ (by simp) (by simp) (by
      obtain ⟨es, clock, hb, Ft, hs, hD⟩ := hown
      exact ⟨es, clock, (Below.heap_alloc _ _ b hbl).trans hb, Ft, hs, hD⟩)
  exact AnyZ.sorted_in Tryz.sorted99 Fence.wide 5 trivial trivial trivial trivial rfl (by omega) (Tsorts99 _) (enters_of Tryz.func107 (by kernel_rfl) rfl) 108 #[.pointer (some ⟨w.heap.size, 0, none⟩)] trivial (enters_of Tryz.func108 (by kernel_rfl) rfl) _ _ hmax hbytes _ hseq
end Go.Proofs.YthcoigbkdbkojabGreat
