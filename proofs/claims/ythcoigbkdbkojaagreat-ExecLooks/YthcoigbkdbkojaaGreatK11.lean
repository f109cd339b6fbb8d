import Derived.Test.YthcoigbkdbkojaaGreatK10
import Derived.Scope
import Derived.Test.YthcoigbkdbkojaaGreatK01
import Derived.Test.YthcoigbkdbkojaaGreatK08
import Derived.Test.YthcoigbkdbkojaaGreatK09
namespace Go.Proofs.YthcoigbkdbkojaaGreat
open Go.RowKit Go.MapKept
open V (hp_new hp_lt hp_below hp_alloc)

theorem cells5f {w : World} {p : Nat} {a b c d e : Value} {t : TypeId} (h : w.heap[p]? = some (.cells #[a, b, c, d, e] t (0, 0))) : w.cell? ⟨p, 0, none⟩ = some a ∧ w.cell? ⟨p, 1, none⟩ = some b ∧ w.cell? ⟨p, 2, none⟩ = some c ∧ w.cell? ⟨p, 3, none⟩ = some d ∧ w.cell? ⟨p, 4, none⟩ = some e ∧ ∀ o, w.frozen? ⟨p, o, none⟩ = false := by
  refine ⟨?_, ?_, ?_, ?_, ?_, fun o => free_of_block h⟩ <;> (rw [cell_of_row w p _ _ _ _ h]; rfl)

theorem set5 {w : World} {r : Nat} {a b c d e : Value} {t : TypeId} (h : w.heap[r]? = some (.cells #[a, b, c, d, e] t (0, 0))) (x y z u v : Value) :
    (((((w.setCell ⟨r, 0, none⟩ x).setCell ⟨r, 1, none⟩ y).setCell ⟨r, 2, none⟩ z).setCell ⟨r, 3, none⟩ u).setCell ⟨r, 4, none⟩ v).heap[r]? = some (.cells #[x, y, z, u, v] t (0, 0)) := by
  simp [World.setCell, Array.getElem?_modify, h]

set_option maxRecDepth 100000 in
theorem load43 {w : World} {r : Nat} {a b c d e : Value} (hb : w.heap[r]? = some (.cells #[a, b, c, d, e] 43 (0, 0))) : (loadVar 43 ⟨r, 0, none⟩).run Tryz.prog w = .ok (.agg #[a, b, c, d, e]) w := by
  obtain ⟨c0, c1, c2, c3, c4, -⟩ := cells5f hb
  simp [go_sem, c0, c1, c2, c3, c4]

set_option maxRecDepth 100000 in
theorem ret_eff {tmps : Array Value} {w : World} {r : Nat} {a b c d e : Value} (hb : w.heap[r]? = some (.cells #[a, b, c, d, e] 43 (0, 0))) (ht : tmps.getD 4 undef = .pointer (some ⟨r, 0, none⟩) := by rfl) :
    (results Tryz.f31 tmps).run Tryz.prog w = .ok (.agg #[a, b, c, d, e]) w := by
  simp only [Array.getD_eq_getD_getElem?] at ht
  simp only [results, Tryz.results31]
  simp [ht, load43 hb, asAddr]

/-- Which instruction a machine is at. -/
def pcOf (w : World) (mb : Nat) : Nat := match w.cell? ⟨mb, 2, none⟩ with | some (.int _ n) => n.toNat | _ => 0

theorem MX.pc {w : World} {B mb M : Nat} {s : Ms} {td : List Vd} {lk : List (ByteArray × ByteArray)} {kv : List (ByteArray × Value)} (h : MX w B mb s td lk M kv) : pcOf w mb = s.pc.toNat := by
  obtain ⟨-, -, c2, -⟩ := h.m.cells
  unfold pcOf
  rw [c2]

theorem MX.next {w : World} {B mb M : Nat} {c : Mc} {pc : Int} {tv lv : Value} (h : MX w B mb (c.ms pc tv lv M) c.td c.lk M c.kv) (n : Int) : MX (w.setCell ⟨mb, 2, none⟩ (.int .i64 n)) B mb (c.ms n tv lv M) c.td c.lk M c.kv :=
  h.own (h.m.setAt n) ((Kept.refl (fun k => k = mb) w).setCell (p := ⟨mb, 2, none⟩) (fun _ => rfl) _) rfl rfl rfl

set_option maxRecDepth 100000 in
set_option maxHeartbeats 6400000 in
theorem run_ok (ws w : World) (B mb M : Nat) (xs : List Ins) (st : Nat → Mc) (code : Value) (P : Value → World → Prop) (h : MY w B mb M 0 (st 0)) (hw : Below B ws w) (hl : xs.length ≤ 64)
    (hc : ∀ W, Below B ws W → CodeAt W code xs) (hst : ∀ (k : Nat) x, xs[k]? = some x → Goes1 ws B mb M k x (st k) (st (k + 1)))
    (hd : ∀ W tv lv, MX W B mb ((st xs.length).ms xs.length tv lv M) (st xs.length).td (st xs.length).lk M (st xs.length).kv → RB W w.heap.size mb → Below B ws W → Calls Tryz.prog 56 #[.pointer (some ⟨mb, 0, none⟩)] W fun e w' => ∃ t1 n1 k1 t2 n2 k2 t3 n3 k3, e = .returned (.agg #[.int .i64 1, .int .i64 0, .slice t1 n1 k1, .slice t2 n2 k2, .slice t3 n3 k3]) ∧ P (.agg #[.int .i64 1, .int .i64 0, .slice t1 n1 k1, .slice t2 n2 k2, .slice t3 n3 k3]) w' ∧ Below W.heap.size W w')
    (hP : ∀ v W W', P v W → Kept (fun k => k = w.heap.size + 1) W W' → P v W') :
    Calls Tryz.prog 31 #[.pointer (some ⟨mb, 0, none⟩), code] w fun e w' => ∃ v, e = .returned v ∧ P v w' ∧ Below B w w' := by
  obtain ⟨ao, cap, rfl, hcap, hc0⟩ := hc w hw
  have hmf : ∀ (fn : Fn) (first cap : Array Value) (w : World), (Instr.makeFunc fn first cap).run Tryz.prog w = .ok (.func fn first cap) w := fun _ _ _ _ => rfl
  obtain ⟨tv0, lv0, h0⟩ := h
  have hml := h0.m.lt
  have H := hid (And.intro h0 (And.intro hw (And.intro hc (And.intro hst (And.intro hd hP)))))
  have hbB := h0.bB
  clear h0 hw hc hst hd hP hc0
  go_enter_defers Tryz.func31, Tryz.ntmps31
  go_wp2_with fail
  refine wp_scope_straight ?_
  go_wp2_with (first
    | (go_at_call 55
       refine (optab_any _).mono ?_
       rintro e w' ⟨rfl, e1⟩
       rw [e1]
       clear e1 w'))
  have hb3 : Below w.heap.size w (((w.alloc (.cells #[.pointer (some ⟨mb, 0, none⟩)] 78)).alloc (.cells #[.int .i64 0, .int .i64 0, .slice none 0 0, .slice none 0 0, .slice none 0 0] 43)).alloc opTab) := ((below1 w _).alloc (by simp) _).alloc (by simp; omega) _
  have hRB : RB (((w.alloc (.cells #[.pointer (some ⟨mb, 0, none⟩)] 78)).alloc (.cells #[.int .i64 0, .int .i64 0, .slice none 0 0, .slice none 0 0, .slice none 0 0] 43)).alloc opTab) w.heap.size mb := by
    refine ⟨hp_alloc (hp_alloc (hp_new w _) _) _, ?_, ?_⟩
    · have h1 := hp_alloc (hp_new (w.alloc (.cells #[.pointer (some ⟨mb, 0, none⟩)] 78)) (.cells #[.int .i64 0, .int .i64 0, .slice none 0 0, .slice none 0 0, .slice none 0 0] 43)) opTab
      simpa using h1
    · have h1 := hp_new ((w.alloc (.cells #[.pointer (some ⟨mb, 0, none⟩)] 78)).alloc (.cells #[.int .i64 0, .int .i64 0, .slice none 0 0, .slice none 0 0, .slice none 0 0] 43)) opTab
      simpa using h1
  have HRB := hid (And.intro hb3 hRB)
  clear hb3 hRB
  refine wp_label ?_
  go_wp2_with fail
  go_loopw [6] (fun _ wr => ∃ k : Nat, k ≤ xs.length ∧ Hid (MY wr B mb M k (st k) ∧ RB wr w.heap.size mb ∧ Below B w wr)) (fun _ wr => xs.length - pcOf wr mb)
  case atStart => exact ⟨0, Nat.zero_le _, hid ⟨⟨_, _, H.out.1.below HRB.out.1⟩, HRB.out.2, HRB.out.1.mono hbB⟩⟩
  case round =>
    obtain ⟨k, hk, HR⟩ := hrel
    obtain ⟨tv, lv, hx⟩ := HR.out.1
    have hpc := hx.pc
    obtain ⟨-, -, c2, -⟩ := hx.m.cells
    replace c2 := (show wr.cell? ⟨mb, 2, none⟩ = some (.int .i64 k) from c2)
    have b0 : wr.cell? ⟨w.heap.size, 0, none⟩ = some (.pointer (some ⟨mb, 0, none⟩)) := by rw [cell_of_row _ _ _ _ _ _ HR.out.2.1.b]; rfl
    have hml2 := hx.m.lt
    have hwl := World.block_lt_of_cell? _ _ b0
    by_cases hlt : k < xs.length
    · have i1 : (k : Int) < (xs.length : Int) := by omega
      obtain ⟨ao2, cap2, e, -, hcd⟩ := H.out.2.2.1 wr (H.out.2.1.trans HR.out.2.2)
      injection e with e1 _ e3
      obtain ⟨bc, oc, e4, hce⟩ := hcd (fun e => by rw [e] at hlt; simp at hlt)
      subst e1 e3
      subst e4
      have hkx : xs[k]? = some xs[k] := List.getElem?_eq_getElem hlt
      obtain ⟨x, hxe⟩ : ∃ x, x = xs[k] := ⟨_, rfl⟩
      rw [← hxe] at hkx
      have hia := hce k x hkx
      obtain ⟨o, ho, h1, h2, hgo⟩ := H.out.2.2.2.1 k x hkx
      have hE := op_in o h1 h2
      obtain ⟨F, hF⟩ : ∃ F, F = 83 + o := ⟨_, rfl⟩
      have htf := fun W (hr : RB W w.heap.size mb) => tab_fn hr.t o h1 h2
      rw [← hF] at hE hgo
      simp only [← hF] at htf
      obtain ⟨op, a, b, c, n', vk, vi, vt⟩ := x
      dsimp only at ho
      subst ho
      obtain ⟨x0, x1, x2, x3, x4, x5, x6, x7⟩ := hia
      dsimp only at x0 x1 x2 x3 x4 x5 x6 x7
      have hne : ¬ (o : Int) = 16 := by omega
      have ho16 : (o : Int) < 16 := by omega
      have hbl := World.block_lt_of_cell? _ _ x0
      dsimp only at hbl
      have HX := hid (And.intro hx (And.intro hgo htf))
      clear hx hcd hce hkx hxe hgo htf hF
      go_upto_region 7 with fail
      have HSW := hid (show ∀ wx : World, wx.heap[wr.heap.size]? = some (io o a b c n' vk vi vt) → RB wx w.heap.size mb → wx.cell? ⟨wr.heap.size, 0, none⟩ = some (.int .i64 o) ∧ wx.cell? ⟨wr.heap.size, 1, none⟩ = some (.int .i64 a) ∧ wx.cell? ⟨wr.heap.size, 2, none⟩ = some (.int .i64 b) ∧ wx.cell? ⟨wr.heap.size, 3, none⟩ = some (.int .i64 c) ∧ wx.cell? ⟨wr.heap.size, 4, none⟩ = some (.int .i64 n') ∧ wx.cell? ⟨wr.heap.size, 5, none⟩ = some (.int .i64 vk) ∧ wx.cell? ⟨wr.heap.size, 6, none⟩ = some (.int .i64 vi) ∧ wx.cell? ⟨wr.heap.size, 7, none⟩ = some (.string vt) ∧ wx.cell? ⟨w.heap.size + 1 + 1, o, none⟩ = some (.func (.func F) #[] #[]) ∧ wx.cell? ⟨w.heap.size, 0, none⟩ = some (.pointer (some ⟨mb, 0, none⟩)) from fun wx q1 q2 => by
        obtain ⟨y0, y1, y2, y3, y4, y5, y6, y7⟩ := cells8 q1
        exact ⟨y0, y1, y2, y3, y4, y5, y6, y7, HX.out.2.2 wx q2, by rw [cell_of_row _ _ _ _ _ _ q2.b]; rfl⟩)
      have hb1 : Below wr.heap.size wr (wr.alloc (io o a b c n' vk vi vt)).drew := (below1 wr _).drew
      have HB1 := hid (And.intro (HX.out.1.below hb1) (And.intro (HR.out.2.1.below hb1) (And.intro hb1 (show (wr.alloc (io o a b c n' vk vi vt)).drew.heap[wr.heap.size]? = some (io o a b c n' vk vi vt) from hp_new wr _))))
      have HGO := hid (HX.out.2.1 _ tv lv HB1.out.1 ((H.out.2.1.trans HR.out.2.2).trans (hb1.mono HX.out.1.bB)))
      clear hb1 x0 x1 x2 x3 x4 x5 x6 x7 c2 b0
      go_region_held3 (fun wx => wx.cell? ⟨wr.heap.size, 0, none⟩ = some (.int .i64 o) ∧ wx.cell? ⟨wr.heap.size, 1, none⟩ = some (.int .i64 a) ∧ wx.cell? ⟨wr.heap.size, 2, none⟩ = some (.int .i64 b) ∧ wx.cell? ⟨wr.heap.size, 3, none⟩ = some (.int .i64 c) ∧ wx.cell? ⟨wr.heap.size, 4, none⟩ = some (.int .i64 n') ∧ wx.cell? ⟨wr.heap.size, 5, none⟩ = some (.int .i64 vk) ∧ wx.cell? ⟨wr.heap.size, 6, none⟩ = some (.int .i64 vi) ∧ wx.cell? ⟨wr.heap.size, 7, none⟩ = some (.string vt) ∧ wx.cell? ⟨w.heap.size + 1 + 1, o, none⟩ = some (.func (.func F) #[] #[]) ∧ wx.cell? ⟨w.heap.size, 0, none⟩ = some (.pointer (some ⟨mb, 0, none⟩)))
        (first | exact HSW.out _ HB1.out.2.2.2 HB1.out.2.1 | exact HSW.out _ H2.out.2.2.2 H2.out.2.1)
        (first
        | (go_at_fn F
           refine HGO.out.mono ?_
           rintro e w2 ⟨rfl, hy2, hk2⟩
           have H2 := hid (And.intro hy2 (And.intro (HB1.out.2.1.kept HB1.out.1 hk2) (And.intro hk2 (hpk HB1.out.2.2.2 hk2 (HB1.out.1.notSx HB1.out.2.2.2 (by decide) (by decide) (by decide))))))
           clear hy2 hk2))
      obtain ⟨tv2, lv2, hx2⟩ := H2.out.1
      obtain ⟨-, -, c2, -⟩ := hx2.m.cells
      replace c2 := (show w2.cell? ⟨mb, 2, none⟩ = some (.int .i64 k) from c2)
      have b0 : w2.cell? ⟨w.heap.size, 0, none⟩ = some (.pointer (some ⟨mb, 0, none⟩)) := by rw [cell_of_row _ _ _ _ _ _ H2.out.2.1.b]; rfl
      have hfz := hx2.m.free
      have HX2 := hid hx2
      have hwk : IntKind.i64.wrap ((k : Int) + 1) = (k : Int) + 1 := by rw [IntKind.wrap_i64]; omega
      clear hx2
      go_wp2_with fail
      go_roundw
      case rel =>
        have hn := HX2.out.next ((k : Int) + 1)
        have hrb := H2.out.2.1
        have hbw : Below B w w2 := (HR.out.2.2.trans (HB1.out.2.2.1.mono HX.out.1.bB)).trans (HB1.out.1.keptB H2.out.2.2.1)
        refine ⟨k + 1, by omega, hid ⟨⟨tv2, lv2, by have h3 := hn; push_cast; exact h3⟩, ⟨?_, ?_, ?_⟩, hbw.setCell (p := ⟨mb, 2, none⟩) HX.out.1.ge _⟩⟩
        · exact V.hp_set hrb.b (p := ⟨mb, 2, none⟩) (fun e => by have h4 := HX2.out.m.ex; obtain ⟨cs, h5, -⟩ := h4; dsimp only at e; rw [← e, hrb.b] at h5; cases h5) _
        · exact V.hp_set hrb.e (p := ⟨mb, 2, none⟩) (fun e => by have h4 := HX2.out.m.ex; obtain ⟨cs, h5, -⟩ := h4; dsimp only at e; rw [← e, hrb.e] at h5; cases h5) _
        · exact V.hp_set hrb.t (p := ⟨mb, 2, none⟩) (fun e => by have h4 := HX2.out.m.ex; obtain ⟨cs, h5, -⟩ := h4; dsimp only at e; rw [← e, hrb.t] at h5; cases h5) _
      case measure =>
        have hn := (HX2.out.next ((k : Int) + 1)).pc
        have hp0 : pcOf wr mb = k := by rw [hpc]; rfl
        rw [hn, hp0]
        show xs.length - (((k : Int) + 1)).toNat < xs.length - k
        omega
    · obtain rfl : xs.length = k := by omega
      have i1 : ¬ (xs.length : Int) < (xs.length : Int) := by omega
      have HD := hid (H.out.2.2.2.2.1 wr tv lv hx HR.out.2.1 (H.out.2.1.trans HR.out.2.2))
      have HX := hid hx
      clear hx
      go_wp2_with (
        go_at_call 56
        refine HD.out.mono ?_
        rintro e w2 ⟨t1, n1, k1, t2, n2, k2, t3, n3, k3, rfl, hP2, hb2⟩
        have hr2 := HR.out.2.1.below hb2
        obtain ⟨f0, f1, f2, f3, f4, f5⟩ := cells5f hr2.e
        have hz2 := hp_lt hr2.e
        have H2 := hid (And.intro hP2 (And.intro hb2 hr2))
        clear hP2 hb2 hr2)
      simp only [Exit.noGoto]
      refine leaves_cons (f := 54) (args := #[.pointer (some ⟨w.heap.size, 0, none⟩), .pointer (some ⟨w.heap.size + 1, 0, none⟩)]) (by simp) (by simp [go_sem]) ?_
      refine (catch_idle _ _ _).mono ?_
      rintro e u' w3 ⟨rfl, rfl, e3⟩
      rw [e3]
      have hk9 : Kept (fun k => k = w.heap.size + 1) w2 (((((w2.setCell ⟨w.heap.size + 1, 0, none⟩ (.int .i64 1)).setCell ⟨w.heap.size + 1, 1, none⟩ (.int .i64 0)).setCell ⟨w.heap.size + 1, 2, none⟩ (.slice t1 n1 k1)).setCell ⟨w.heap.size + 1, 3, none⟩ (.slice t2 n2 k2)).setCell ⟨w.heap.size + 1, 4, none⟩ (.slice t3 n3 k3)) := (((((Kept.refl (fun k => k = w.heap.size + 1) w2).setCell (p := ⟨w.heap.size + 1, 0, none⟩) (fun _ => rfl) _).setCell (p := ⟨w.heap.size + 1, 1, none⟩) (fun _ => rfl) _).setCell (p := ⟨w.heap.size + 1, 2, none⟩) (fun _ => rfl) _).setCell (p := ⟨w.heap.size + 1, 3, none⟩) (fun _ => rfl) _).setCell (p := ⟨w.heap.size + 1, 4, none⟩) (fun _ => rfl) _
      exact ⟨_, ret_eff (set5 H2.out.2.2.e _ _ _ _ _), _, rfl, H.out.2.2.2.2.2 _ _ _ H2.out.1 hk9, (HR.out.2.2.trans (H2.out.2.1.mono HX.out.bB)).trans (hk9.below (Nat.le_trans HX.out.bB H2.out.2.1.size) (fun k hk e => by omega))⟩

end Go.Proofs.YthcoigbkdbkojaaGreat

namespace Go.Proofs.YthcoigbkdbkojaaGreat
open Go.RowKit Go.Maps Go.Sort Go.Shelf

theorem Tsorts99 (m : Nat) : AnyZ.SortsIn Tryz.prog Tryz.sorted99_ren Fence.wide m :=
  ⟨fun blk off cap ss W hH hblk hsz => callsIn_wide.2 (AnyM.slices_Sort_string Tryz.sort137 blk off cap ss W hH hblk hsz),
   fun p cap W => callsIn_wide.2 (AnyM.slices_Sort_string_none Tryz.sort137 p cap W)⟩

theorem Tmaps_Keys_100 (mb : Option Nat) (W : World) : CallsIn Fence.wide 5 Tryz.prog 100 #[.map mb] W fun e w' => e = .returned (.func (.func 138) #[] #[.pointer (some ⟨W.heap.size, 0, none⟩)]) ∧ w' = W.alloc (.cells #[.map mb] 79) :=
  AnyZ.keys_in Tryz.keys100 Fence.wide 5 trivial rfl mb W

set_option maxHeartbeats 1000000 in
theorem Tslices_Sorted_keys_99_100 {H : Type} (b nn : Nat) (D0 : DataW H) (R : Value → Option (DataW H × List MemPlace)) (w : World) (hown : w.ownsMap Tryz.prog 9 R b nn D0) (hmax : Maps.size D0 ≤ maxLen) (hbytes : Maps.size D0 * 16 ≤ 140737488355328) :
    CallsIn Fence.wide 5 Tryz.prog 99 #[.func (.func 138) #[] #[.pointer (some ⟨w.heap.size, 0, none⟩)]] (w.alloc (.cells #[.map (some b)] 79)) fun e w' => ∃ (v : Value) (ss : List (List UInt8)), e = .returned v ∧ ss.Perm (strKeys D0) ∧
      w'.ownsRow (w.alloc (.cells #[.map (some b)] 79)).heap.size 9 1 v ss.length ((ss.mergeSort (fun x y => decide (x ≤ y))).map encStr) ∧ (v = .slice none 0 0 ↔ ss = []) ∧ Below (w.alloc (.cells #[.map (some b)] 79)).heap.size (w.alloc (.cells #[.map (some b)] 79)) w' := by
  have hbl := hown.lt
  have hseq : SeqGives Fence.wide 2 Tryz.prog 138 #[.pointer (some ⟨w.heap.size, 0, none⟩)] encStr (fun ss => ss.Perm (strKeys D0)) (Maps.size D0) (w.alloc (.cells #[.map (some b)] 79)) :=
    AnyZ.keys_gives (ρ := Tryz.keys100_ren) { Tryz.keys100 with } Fence.wide _ trivial rfl (by omega) w.heap.size b nn D0 _ (by simp) (by simp) (by
      obtain ⟨es, clock, hb, Ft, hs, hD⟩ := hown
      exact ⟨es, clock, (Below.heap_alloc _ _ b hbl).trans hb, Ft, hs, hD⟩)
  exact AnyZ.sorted_in Tryz.sorted99 Fence.wide 5 trivial trivial trivial trivial rfl (by omega) (Tsorts99 _) (enters_of Tryz.func137 (by kernel_rfl) rfl) 138 #[.pointer (some ⟨w.heap.size, 0, none⟩)] trivial (enters_of Tryz.func138 (by kernel_rfl) rfl) _ _ hmax hbytes _ hseq

end Go.Proofs.YthcoigbkdbkojaaGreat

namespace Go.Proofs.YthcoigbkdbkojaaGreat
open Go.RowKit Go.MapKept Go.Maps Go.Sort Go.Shelf

/-- Whatever a value is, it reads as this. -/
def anyR : Value → Option (DataW Unit × List MemPlace) := fun _ => some (.lit (.bool true), [])

theorem MG.stamped {κ : Type} [DecidableEq κ] {K : Ky κ} {w : World} {b c : Nat} {kv : List (κ × Value)} {es : Array MapEntry} (h : MG K w b kv es c) (hi : ∀ a b, K.enc a = K.enc b → a = b) : Stamped es c := by
  refine ⟨h.hold, h.nd, ?_⟩
  have e1 : es.toList.map (·.key) = (kv.map Prod.fst).map K.enc := by
    have := congrArg (List.map Prod.fst) h.kvs
    simpa [List.map_map, Function.comp_def] using this
  rw [e1]
  exact List.Pairwise.map _ (fun a b hab e => hab (hi a b e)) h.keys

/-- The entries of a map of texts, read. -/
theorem rg_KS {w : World} {b c : Nat} {nv : List (ByteArray × Value)} {es : Array MapEntry} (h : MG KS w b nv es c) (hs : ∀ x ∈ nv, x.1.size ≤ maxLen) :
    (∀ e ∈ es.toList, ∃ s : ByteArray, e.key = .string s ∧ s.size ≤ maxLen) := by
  intro e he
  have hm : (e.key, e.val) ∈ nv.map (fun x => (KS.enc x.1, x.2)) := by
    rw [← h.kvs]
    exact List.mem_map.2 ⟨e, he, rfl⟩
  obtain ⟨x, hx, hxe⟩ := List.mem_map.1 hm
  injection hxe with h1 h2
  exact ⟨x.1, h1.symm, hs x hx⟩

theorem owns_KS {w : World} {b c : Nat} {nv : List (ByteArray × Value)} {es : Array MapEntry} (h : MG KS w b nv es c) (hs : ∀ x ∈ nv, x.1.size ≤ maxLen) (hn : nv.length ≤ 1000000) :
    w.ownsMap Tryz.prog 9 anyR b nv.length (.map ((es.toList.map (WideElems.rg Tryz.prog 9 anyR)).foldr DataW.insert [])) := by
  have hk : ∀ e ∈ es.toList, ∃ s : ByteArray, keyOf Tryz.prog 9 e.key = some (.string s.data.toList) ∧ e.key = .string s := fun e he => by
    obtain ⟨s, h1, h2⟩ := rg_KS h hs e he
    exact ⟨s, by rw [h1]; exact WideMaps.keyOf_string_mk Tryz.underlying9 h2, h1⟩
  refine ⟨es, c, h.blk, ⟨by rw [h.size]; unfold maxLen; omega, ?_, ?_⟩, by rw [h.size]; exact Nat.le_refl _, rfl⟩
  · exact h.stamped (fun a b e => by injection e)
  · intro e he
    obtain ⟨s, h1, _⟩ := hk e he
    exact ⟨(.string s.data.toList, .lit (.bool true)), by simp [WideElems.rd, h1, anyR]⟩

theorem strKeys_KS {w : World} {b c : Nat} {nv : List (ByteArray × Value)} {es : Array MapEntry} (h : MG KS w b nv es c) (hs : ∀ x ∈ nv, x.1.size ≤ maxLen) :
    (strKeys (.map ((es.toList.map (WideElems.rg (H := Unit) Tryz.prog 9 anyR)).foldr DataW.insert []))).Perm (nv.map (fun x => x.1.data.toList)) := by
  have h1 : ((es.toList.map (WideElems.rg (H := Unit) Tryz.prog 9 anyR)).map (fun p => strOf p.1)) = nv.map (fun x => x.1.data.toList) := by
    have e1 : (es.toList.map (WideElems.rg (H := Unit) Tryz.prog 9 anyR)).map (fun p => strOf p.1) = (es.toList.map (fun e => (e.key, e.val))).map (fun x => match x.1 with | .string s => s.data.toList | _ => []) := by
      rw [List.map_map, List.map_map]
      apply List.map_congr_left
      intro e he
      obtain ⟨s, h2, h3⟩ := rg_KS h hs e he
      have hk : keyOf Tryz.prog 9 (.string s) = some (.string s.data.toList) := WideMaps.keyOf_string_mk Tryz.underlying9 h3
      simp [WideElems.rg, WideElems.rd, hk, anyR, strOf, h2]
    rw [e1, h.kvs, List.map_map]
    rfl
  rw [← h1]
  exact (WideShapes.sorted_perm _).map _

theorem sort_perm {l l' : List (List UInt8)} (h : l.Perm l') : l.mergeSort (fun x y => decide (x ≤ y)) = l'.mergeSort (fun x y => decide (x ≤ y)) := by
  have ht : ∀ a b c : List UInt8, decide (a ≤ b) = true → decide (b ≤ c) = true → decide (a ≤ c) = true := fun a b c h1 h2 => by
    simp at h1 h2 ⊢
    exact List.le_trans h1 h2
  have hto : ∀ a b : List UInt8, (decide (a ≤ b) || decide (b ≤ a)) = true := fun a b => by
    simp
    exact List.le_total a b
  refine List.Perm.eq_of_pairwise (le := fun a b => decide (a ≤ b) = true) ?_ (List.pairwise_mergeSort ht hto l) (List.pairwise_mergeSort ht hto l') ((List.mergeSort_perm l _).trans (h.trans (List.mergeSort_perm l' _).symm))
  intro a b _ _ h1 h2
  simp at h1 h2
  exact List.le_antisymm h1 h2

/-- The names of a map, the least first. -/
def sk (nv : List (ByteArray × Value)) : List (List UInt8) := (nv.map (fun x => x.1.data.toList)).mergeSort (fun x y => decide (x ≤ y))

theorem keys_m (M : Nat) (w : World) : Calls Tryz.prog 100 #[.map (some M)] w fun e w' => e = .returned (.func (.func 138) #[] #[.pointer (some ⟨w.heap.size, 0, none⟩)]) ∧ w' = w.alloc (.cells #[.map (some M)] 79) := callsIn_wide.1 (Tmaps_Keys_100 (some M) w)

theorem sorted_m {w : World} {b c : Nat} {nv : List (ByteArray × Value)} {es : Array MapEntry} (h : MG KS w b nv es c) (hs : ∀ x ∈ nv, x.1.size ≤ maxLen) (hn : nv.length ≤ 1000000) :
    Calls Tryz.prog 99 #[.func (.func 138) #[] #[.pointer (some ⟨w.heap.size, 0, none⟩)]] (w.alloc (.cells #[.map (some b)] 79)) fun e w' => ∃ v, e = .returned v ∧ w'.ownsRow w.heap.size 9 1 v nv.length ((sk nv).map encStr) ∧ Below w.heap.size w w' := by
  have hp := strKeys_KS h hs
  have hlen : Maps.size (DataW.map ((es.toList.map (WideElems.rg (H := Unit) Tryz.prog 9 anyR)).foldr DataW.insert [])) = nv.length := by
    have := (WideShapes.sorted_perm (es.toList.map (WideElems.rg (H := Unit) Tryz.prog 9 anyR))).length_eq
    simp [Maps.size, this, ← h.size]
  refine (callsIn_wide.1 (Tslices_Sorted_keys_99_100 b nv.length _ anyR w (owns_KS h hs hn) (by rw [hlen]; unfold maxLen; omega) (by rw [hlen]; omega))).mono ?_
  rintro e w' ⟨v, ss, rfl, hss, ho, -, hb⟩
  have hl : ss.length = nv.length := by simpa using (hss.trans hp).length_eq
  rw [sort_perm (hss.trans hp), hl] at ho
  exact ⟨v, rfl, owns_mono ho (by simp), ((Below.refl _ w).alloc (Nat.le_refl _) _).trans (hb.mono (by simp))⟩

end Go.Proofs.YthcoigbkdbkojaaGreat

namespace Go.Proofs.YthcoigbkdbkojaaGreat
open Go.RowKit Go.MapKept
open V (hp_new hp_lt hp_below hp_alloc)

theorem Tryz.info54 : (Tryz.prog.info? 54).map (fun i => (i.zero, i.size, i.bytes)) = some (some (.agg #[.string ⟨#[]⟩, .int .i64 0, .int .i64 0, .string ⟨#[]⟩]), 4, 48) := by kernel_rfl

theorem ones4 (a b c d : Value) (h1 : a.oneCell' = true) (h2 : b.oneCell' = true) (h3 : c.oneCell' = true) (h4 : d.oneCell' = true) : ∀ u ∈ (#[a, b, c, d] : Array Value).toList, u.oneCell' = true := by
  intro u hu
  simp at hu
  rcases hu with rfl | rfl | rfl | rfl <;> assumption

theorem ecs_one (l : List (ByteArray × Vd)) : ∀ u ∈ l.flatMap ecs, u.oneCell' = true := by
  intro u hu
  obtain ⟨x, _, hx⟩ := List.mem_flatMap.1 hu
  simp [ecs] at hx
  rcases hx with rfl | rfl | rfl | rfl <;> rfl

set_option maxRecDepth 100000 in
theorem ret_eff2 {fn : Func} {p : Tmp} (h : fn.results = #[.cell p 43]) {tmps : Array Value} {r : Nat} {w : World} {a b c d e : Value} (ht : tmps.getD p undef = .pointer (some ⟨r, 0, none⟩)) (hb : w.heap[r]? = some (.cells #[a, b, c, d, e] 43 (0, 0))) :
    (results fn tmps).run Tryz.prog w = .ok (.agg #[a, b, c, d, e]) w := by
  have ht2 := ht
  simp only [Array.getD_eq_getD_getElem?] at ht2
  simp only [results, h]
  simp [ht2, load43 hb, asAddr]

/-- What is written under a key. -/
def vdOfM : Value → Vd | .agg #[.int _ k, .int _ i, .string t] => ⟨k, i, t⟩ | _ => ⟨0, 0, emp⟩
/-- What a key has in a list. -/
def lkpM {κ : Type} [DecidableEq κ] (k : κ) (kv : List (κ × Value)) : Option Value := kv.lookup k
theorem lkpM_mem {κ : Type} [DecidableEq κ] {k : κ} : ∀ {kv : List (κ × Value)}, k ∈ kv.map Prod.fst → ∃ v, lkpM k kv = some v ∧ (k, v) ∈ kv
  | [], h => (by cases h)
  | (a, v) :: l, h => by
    unfold lkpM
    by_cases e : k = a
    · subst e
      exact ⟨v, by simp [List.lookup], List.mem_cons_self ..⟩
    · have h2 : k ∈ l.map Prod.fst := by
        rcases List.mem_cons.1 h with h | h
        · exact absurd h e
        · exact h
      obtain ⟨u, h3, h4⟩ := lkpM_mem h2
      refine ⟨u, ?_, List.mem_cons_of_mem _ h4⟩
      have hb : (k == a) = false := by simpa using e
      simp only [List.lookup, hb]
      exact h3
theorem sk_key {kv : List (ByteArray × Value)} {bs : List UInt8} (h : bs ∈ sk kv) : (⟨bs.toArray⟩ : ByteArray) ∈ kv.map Prod.fst := by
  unfold sk at h
  have h2 := (List.mergeSort_perm _ _).mem_iff.1 h
  obtain ⟨x, hx, e⟩ := List.mem_map.1 h2
  refine List.mem_map.2 ⟨x, hx, ?_⟩
  rw [← e]
/-- The writes in the order of their keys. -/
def dnL (kv : List (ByteArray × Value)) : List (ByteArray × Vd) := (sk kv).map fun bs => (⟨bs.toArray⟩, vdOfM ((lkpM (⟨bs.toArray⟩ : ByteArray) kv).getD (vl 0 0 emp)))

section
variable {w w' : World} {B mb M : Nat} {s : Ms} {td : List Vd} {lk : List (ByteArray × ByteArray)} {kv : List (ByteArray × Value)}

set_option maxRecDepth 100000 in
set_option maxHeartbeats 6400000 in
theorem done_any (h : MX w B mb s td lk M kv) (hn : kv.length ≤ 1000) (hs : ∀ x ∈ kv, x.1.size ≤ 1000000) (hv : ∀ x ∈ kv, ∃ d : Vd, x.2 = d.val ∧ d.t.size ≤ 1000000) :
    Calls Tryz.prog 56 #[.pointer (some ⟨mb, 0, none⟩)] w fun e w' => ∃ a c, e = .returned (.agg #[.int .i64 1, .int .i64 0, s.tv, .slice a kv.length c, s.lv]) ∧ w'.ownsRow w.heap.size 54 4 (.slice a kv.length c) kv.length ((dnL kv).flatMap ecs) ∧ Below w.heap.size w w' := by
  obtain ⟨a1, q1, htv⟩ := own_shape h.td
  obtain ⟨a2, q2, hlv⟩ := own_shape h.lk
  rw [htv, hlv]
  obtain ⟨-, -, -, c3, c4, c5⟩ := h.m.cells
  rw [htv] at c3
  rw [hlv] at c5
  rw [h.wv] at c4
  have hml := h.m.lt
  obtain ⟨es, cc, g⟩ := h.mg
  have H := hid (And.intro h (And.intro g (And.intro hs hv)))
  clear h g hs hv htv hlv
  go_enter Tryz.func56, Tryz.ntmps56
  go_upto_region 1 with fail
  go_region
  have hbA : Below w.heap.size w ((w.alloc (.cells #[.int .i64 0, .int .i64 0, .slice none 0 0, .slice none 0 0, .slice none 0 0] 43)).alloc (.cells #[.int .i64 1, .int .i64 0, .slice a1 td.length q1, .slice none 0 0, .slice a2 lk.length q2] 43)).drew := ((below1 w _).alloc (by simp) _).drew
  refine cutG (fun W => W.heap[w.heap.size]? = some (.cells #[.int .i64 0, .int .i64 0, .slice none 0 0, .slice none 0 0, .slice none 0 0] 43 (0, 0)) ∧ W.heap[w.heap.size + 1]? = some (.cells #[.int .i64 1, .int .i64 0, .slice a1 td.length q1, .slice none 0 0, .slice a2 lk.length q2] 43 (0, 0)) ∧ Below w.heap.size w W) ⟨two1 w _ _, two2 w _ _, hbA⟩ ?_
  clear hbA
  rintro W1 ⟨hr0, hr1, hbW⟩
  have c4' : W1.cell? ⟨mb, 52, none⟩ = some (.map (some M)) := (hbW.cell (p := ⟨mb, 52, none⟩) hml).trans c4
  have HW := hid (And.intro hr0 (And.intro hr1 hbW))
  have HK := hid (keys_m M W1)
  have HSO := hid (sorted_m (H.out.2.1.below hbW) (fun x hx => Nat.le_trans (H.out.2.2.1 x hx) (by unfold maxLen; omega)) (by omega))
  clear hr0 hr1 hbW c3 c5 c4
  go_wp2_with (first
    | (go_at_call 100
       refine HK.out.mono ?_
       rintro e w' ⟨rfl, e1⟩
       rw [e1]
       clear e1 w')
    | (go_at_call 99
       refine HSO.out.mono ?_
       rintro e w2 ⟨v2, rfl, ho2, hb2⟩
       obtain ⟨ak, ck, rfl⟩ := own_shape ho2
       have H2 := hid (And.intro ho2 hb2)
       clear ho2 hb2))
  have HL := hid (show (sk kv).length = kv.length ∧ (dnL kv).length = kv.length by unfold dnL; rw [List.length_map]; simp [sk, List.length_mergeSort])
  have hw2 := H2.out.2.size
  have HR0 := hid (And.intro (blk_of H2.out.2 HW.out.1 (hp_lt HW.out.1)) (And.intro (blk_of H2.out.2 HW.out.2.1 (hp_lt HW.out.2.1)) (below_on HW.out.2.2 H2.out.2)))
  go_loopw [23] (fun ix wr => ∃ (k : Nat) (a : Option Addr) (c : Nat), k ≤ kv.length ∧ ix = .int .i64 k ∧ Hid (wr.heap[w.heap.size]? = some (.cells #[.int .i64 0, .int .i64 0, .slice none 0 0, .slice none 0 0, .slice none 0 0] 43 (0, 0)) ∧ wr.heap[w.heap.size + 1]? = some (.cells #[.int .i64 1, .int .i64 0, .slice a1 td.length q1, .slice a k c, .slice a2 lk.length q2] 43 (0, 0)) ∧ wr.ownsRow w2.heap.size 54 4 (.slice a k c) k (((dnL kv).take k).flatMap ecs) ∧ Kept (fun q => q = w.heap.size + 1) w2 wr)) (fun ix _ => kv.length - (intOf ix).toNat)
  case atStart => exact ⟨0, none, 0, Nat.zero_le _, by go_num, hid ⟨HR0.out.1, HR0.out.2.1, owns_nil _ _ _ _, Kept.refl _ _⟩⟩
  case round =>
    obtain ⟨k, a, c, hk, rfl, HR⟩ := hrel
    by_cases hlt : k < kv.length
    · have i1 : (k : Int) < (kv.length : Int) := by omega
      obtain ⟨bs, hbs⟩ : ∃ bs, (sk kv)[k]? = some bs := ⟨(sk kv)[k]'(by rw [HL.out.1]; exact hlt), List.getElem?_eq_getElem _⟩
      have hkr := ownsRow_kept H2.out.1 HR.out.2.2.2 (fun q e e2 => by have h1 := (H2.out.1.lt q e).1; have h3 := hp_lt HW.out.2.1; omega)
      obtain ⟨gk, ck2, ek⟩ : ∃ g c', (Value.slice ak kv.length ck) = .slice (some ⟨g, 0, none⟩) kv.length c' := by
        rcases hkr.2 with ⟨_, e⟩ | ⟨g, cap, cur, e, _⟩
        · omega
        · exact ⟨g, cap, e⟩
      injection ek with e1 _ e3
      subst e1 e3
      have kc := hkr.cells (g := gk) rfl k (.string ⟨bs.toArray⟩) (by rw [List.getElem?_map, hbs]; rfl)
      rw [add_lit, Nat.zero_add] at kc
      obtain ⟨key, hkey⟩ : ∃ key : ByteArray, key = ⟨bs.toArray⟩ := ⟨_, rfl⟩
      obtain ⟨vv, hl1, hl2⟩ := lkpM_mem (sk_key (List.mem_of_getElem? hbs))
      obtain ⟨d, hd1, hd2⟩ := H.out.2.2.2 _ hl2
      have hks := H.out.2.2.1 _ hl2
      have hdn : (dnL kv)[k]? = some (key, d) := by
        unfold dnL
        rw [List.getElem?_map, hbs]
        show some ((⟨bs.toArray⟩ : ByteArray), vdOfM ((lkpM (⟨bs.toArray⟩ : ByteArray) kv).getD (vl 0 0 emp))) = _
        rw [hl1, hkey, Option.getD_some]
        dsimp only at hd1
        rw [hd1]
        rfl
      rw [← hkey] at kc hl1 hks
      dsimp only at hks hd1
      rw [hd1] at hl1
      have HLK := hid (show ∀ W, Below w.heap.size w W → (Instr.lookup 79 (.map (some M)) (.string key) false).run Tryz.prog W = .ok (vl d.k d.i d.t) W ∧ W.cell? ⟨mb, 52, none⟩ = some (.map (some M)) from fun W hb => by
        have h1 := (H.out.2.1.below hb).look Tryz.underlying79 Tryz.underlying9 (zero28 W) key false
        refine ⟨?_, ?_⟩
        · unfold lkpM at hl1
          rw [hl1] at h1
          exact h1
        · obtain ⟨-, -, -, -, c4, -⟩ := (H.out.1.below hb).m.cells
          rw [H.out.1.wv] at c4
          exact c4)
      have HRW := hid (show Below w.heap.size w wr from (HR0.out.2.2.trans (HR.out.2.2.2.below (Nat.le_trans HW.out.2.2.size hw2) (fun q hq e => by omega))))
      have HBX := hid (show ∀ W, Below wr.heap.size wr W → W.cell? ⟨w.heap.size + 1, 3, none⟩ = some (.slice a k c) ∧ W.heap[w.heap.size + 1]? = some (.cells #[.int .i64 1, .int .i64 0, .slice a1 td.length q1, .slice a k c, .slice a2 lk.length q2] 43 (0, 0)) from fun W hb => by
        have h1 := blk_of hb HR.out.2.1 (hp_lt HR.out.2.1)
        exact ⟨by rw [cell_of_row _ _ _ _ _ _ h1]; rfl, h1⟩)
      have HC1 := hid (fun W => strClone_any key W (by omega))
      have HC2 := hid (fun W => copied_m d.k d.i d.t (by omega) W)
      have HDN := hid hdn
      have kck := kc
      clear hkr hbs hl1 hl2 hd1 hdn hkey
      go_upto_region 5 with fail
      obtain ⟨hm0, hm1⟩ := HLK.out wr.drew HRW.out.drew
      obtain ⟨hb0, -⟩ := HBX.out wr.drew ((Below.refl _ wr).drew)
      go_region_law
        (first
          | (refine step_append_rf _ (by rfl) (.tmp 28) (.tmp 39) 22 54 _ 4 48 (by rfl) Tryz.underlying22 Tryz.info54 rfl (by omega) w2.heap.size (.slice a k c) k (((dnL kv).take k).flatMap ecs) (by rfl) (HO.out.alloc _) (.slice (some ⟨w4.heap.size, 0, none⟩) 1 1) 1 [.string key, .int .i64 d.k, .int .i64 d.i, .string d.t] (by rfl) (rf_new w4 54 #[.string key, .int .i64 d.k, .int .i64 d.i, .string d.t] 4 rfl (ones4 _ _ _ _ rfl rfl rfl rfl)) (by omega) (by unfold maxLen; omega) HZ.out ?_; intro a9 c9 w9 hown hgr hob; have HGR := hid (And.intro hown.out (And.intro hgr.out hob.out)); have hx9 := HNX.out w9 hgr.out; obtain ⟨z3, z4, z5⟩ := hx9; clear hown hgr hob)
          | (go_simp; go_wp2_with (first
              | (go_at_call 70; refine (HC1.out _).mono ?_; rintro e w3 ⟨rfl, hb3'⟩; have hb3 := (show Below wr.heap.size wr w3 from ⟨hb3'.os, hb3'.tape, hb3'.output, hb3'.size, hb3'.block⟩); obtain ⟨hm3, hm4⟩ := HLK.out w3 (below_on HRW.out hb3); obtain ⟨hb5, -⟩ := HBX.out w3 hb3; have HB3 := hid hb3; clear hb3 hb3')
              | (go_at_call 101; refine (HC2.out _).mono ?_; rintro e w4 ⟨rfl, hb4⟩; have HB4 := hid (below_on HB3.out hb4); obtain ⟨hb6, -⟩ := HBX.out w4 HB4.out; obtain ⟨hb7, -⟩ := HBX.out (w4.alloc (.cells #[.string key, .int .i64 d.k, .int .i64 d.i, .string d.t] 54)) (HB4.out.alloc HB4.out.size _); have HO := hid (ownsRow_kept HR.out.2.2.1 (Kept.ofBelow HB4.out) (fun _ _ e => e)); have HZ := hid (show w2.heap.size ≤ (w4.alloc (.cells #[.string key, .int .i64 d.k, .int .i64 d.i, .string d.t] 54)).heap.size by have h1 := HB4.out.size; have h2 := HR.out.2.2.2.size; simp; omega); have HNX := hid (show ∀ W, (w4.alloc (.cells #[.string key, .int .i64 d.k, .int .i64 d.i, .string d.t] 54)).grownBy W (Value.slice a k c).ownBlock → W.cell? ⟨w.heap.size + 1, 3, none⟩ = some (.slice a k c) ∧ (∀ o, W.frozen? ⟨w.heap.size + 1, o, none⟩ = false) ∧ w.heap.size + 1 < W.heap.size from fun W hg => by
                  have h1 := hp_alloc (HBX.out w4 HB4.out).2 (.cells #[.string key, .int .i64 d.k, .int .i64 d.i, .string d.t] 54)
                  have h2 := hpk h1 ((Kept.refl (fun q => (Value.slice a k c).ownBlock = some q) _).grown hg (fun _ _ e => e)) (fun e => owns_blk HO.out e (HBX.out w4 HB4.out).2 (fun cs e => by injection e with _ e; cases e))
                  exact ⟨by rw [cell_of_row _ _ _ _ _ _ h2]; rfl, fun o => free_of_block h2, hp_lt h2⟩); clear hb4))))
      all_goals
        go_wp2_with fail
        have KA : Kept (fun q => (Value.slice a k c).ownBlock = some q) wr w9 := ((Kept.ofBelow HB4.out).mono (S' := fun q => (Value.slice a k c).ownBlock = some q) (fun _ _ e => e.elim)).trans (((Kept.refl _ w4).alloc _).grown HGR.out.2.1 (fun _ _ e => e)) (fun _ _ e => e)
        have hE0 := hpk HR.out.1 KA (fun e => owns_blk HR.out.2.2.1 e HR.out.1 (fun cs e => by injection e with _ e; cases e))
        have hB9 := hpk HR.out.2.1 KA (fun e => owns_blk HR.out.2.2.1 e HR.out.2.1 (fun cs e => by injection e with _ e; cases e))
        have hK9 : Kept (fun q => q = w.heap.size + 1) w9 (w9.setCell ⟨w.heap.size + 1, 3, none⟩ (.slice a9 (k + 1) c9)) := (Kept.refl (fun q => q = w.heap.size + 1) w9).setCell (p := ⟨w.heap.size + 1, 3, none⟩) (fun _ => rfl) _
        have hrow : w9.ownsRow w2.heap.size 54 4 (.slice a9 (k + 1) c9) (k + 1) (((dnL kv).take (k + 1)).flatMap ecs) := by
          rw [List.take_add_one, HDN.out, List.flatMap_append]
          exact HGR.out.1
        have HF := hid (show (w9.setCell ⟨w.heap.size + 1, 3, none⟩ (.slice a9 (k + 1) c9)).heap[w.heap.size]? = some (.cells #[.int .i64 0, .int .i64 0, .slice none 0 0, .slice none 0 0, .slice none 0 0] 43 (0, 0)) ∧ (w9.setCell ⟨w.heap.size + 1, 3, none⟩ (.slice a9 (k + 1) c9)).heap[w.heap.size + 1]? = some (.cells #[.int .i64 1, .int .i64 0, .slice a1 td.length q1, .slice a9 (k + 1) c9, .slice a2 lk.length q2] 43 (0, 0)) ∧ (w9.setCell ⟨w.heap.size + 1, 3, none⟩ (.slice a9 (k + 1) c9)).ownsRow w2.heap.size 54 4 (.slice a9 (k + 1) c9) (k + 1) (((dnL kv).take (k + 1)).flatMap ecs) ∧ Kept (fun q => q = w.heap.size + 1) w2 (w9.setCell ⟨w.heap.size + 1, 3, none⟩ (.slice a9 (k + 1) c9)) from
          ⟨hpk hE0 hK9 (by omega), V.set_block (i := 3) hB9 _, ownsRow_kept hrow hK9 (fun q e e2 => owns_blk hrow (k := w.heap.size + 1) (by rw [← e2]; exact e) hB9 (fun cs e => by injection e with _ e; cases e)), (HR.out.2.2.2.trans KA (fun q hq e => by have := (HR.out.2.2.1.lt q e).1; omega)).trans hK9 (fun _ _ e => e)⟩)
        clear KA hE0 hB9 hK9 hrow
        go_roundw
        case rel => first | exact ⟨k + 1, a9, c9, by omega, by go_num, HF⟩ | ((repeat apply Exists.intro); exact ⟨⟨k + 1, a9, c9, by omega, by go_num, HF⟩, rfl⟩)
        case measure => simp [intOf]; omega
    · obtain rfl : kv.length = k := by omega
      have i1 : ¬ (kv.length : Int) < (kv.length : Int) := by omega
      obtain ⟨f0, f1, f2, f3, f4, f5⟩ := cells5f HR.out.1
      obtain ⟨g0, g1, g2, g3, g4, g5⟩ := cells5f HR.out.2.1
      go_wp2_with fail
      refine bodyPost_ret (ret_eff2 Tryz.results56 rfl (set5 HR.out.1 _ _ _ _ _)) rfl ?_
      have hK : Kept (fun q => q = w.heap.size) wr (((((wr.setCell ⟨w.heap.size, 0, none⟩ (.int .i64 1)).setCell ⟨w.heap.size, 1, none⟩ (.int .i64 0)).setCell ⟨w.heap.size, 2, none⟩ (.slice a1 td.length q1)).setCell ⟨w.heap.size, 3, none⟩ (.slice a kv.length c)).setCell ⟨w.heap.size, 4, none⟩ (.slice a2 lk.length q2)) := (((((Kept.refl (fun q => q = w.heap.size) wr).setCell (p := ⟨w.heap.size, 0, none⟩) (fun _ => rfl) _).setCell (p := ⟨w.heap.size, 1, none⟩) (fun _ => rfl) _).setCell (p := ⟨w.heap.size, 2, none⟩) (fun _ => rfl) _).setCell (p := ⟨w.heap.size, 3, none⟩) (fun _ => rfl) _).setCell (p := ⟨w.heap.size, 4, none⟩) (fun _ => rfl) _
      have hbr : Below w.heap.size w wr := HR0.out.2.2.trans (HR.out.2.2.2.below (Nat.le_trans HW.out.2.2.size hw2) (fun q hq e => by omega))
      have hro := ownsRow_kept HR.out.2.2.1 hK (fun q e e2 => owns_blk HR.out.2.2.1 (k := w.heap.size) (by rw [← e2]; exact e) HR.out.1 (fun cs e => by injection e with _ e; cases e))
      rw [List.take_of_length_le (by rw [HL.out.2]; exact Nat.le_refl _)] at hro
      exact ⟨_, _, rfl, owns_mono hro (Nat.le_trans HW.out.2.2.size hw2), hbr.trans (hK.below hbr.size (fun q hq e => by omega))⟩

end

end Go.Proofs.YthcoigbkdbkojaaGreat
