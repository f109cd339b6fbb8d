import Derived.Test.YtlmompdfombgeaaGreatK18
import Derived.Test.YtlmompdfombgeaaGreatK17
namespace Go.Proofs.YtlmompdfombgeaaGreat
open Go.RowKit Go.MapKept

/-- delete from no map. -/
theorem wpList_del_nil (w : World) {ops : Array Oper} {rest : List Oper} {o : Oper} {a : Act} {Q : Exit → Act → World → Prop}
    (hg : o.guard = none) (m x : Operand) (t : TypeId) (tys : Array TypeId) (hop : o.op = .call { callee := .builtin .delete, args := #[m, x], argTypes := tys }) (hty : tys[0]? = some t)
    (k e : TypeId) (d : TypeDesc) (ht : Tryz.prog.underlying t = some (.map k e)) (hk : Tryz.prog.underlying k = some d)
    (hm : a.eval m = .map none) (key : Value) (hx : a.eval x = key) (hi : IsKey d key)
    (hK : wpList Tryz.prog ops Q rest (a.put o.dst (.tuple #[])) w) :
    wpList Tryz.prog ops Q (o :: rest) a w := by
  refine wpList_plain hg fun K' hK' => ?_
  have hrun : (Builtin.delete_ tys o.type #[.map none, key]).run Tryz.prog w = .ok (.tuple #[]) w := by
    simp only [Builtin.delete_, hty, List.getElem?_toArray, List.getElem?_cons_zero, List.getElem?_cons_succ, Sem.run_bind, run_underlying ht, Result.andThen, MapKept.run_checkKey hk hi, Sem.run_pure]
  unfold Oper.wp execOp
  simp only [hop, resolve, invoke, builtin, Sem.run_bind, Sem.run_pure, Result.andThen_ok, List.map_toArray, List.map_cons, List.map_nil, hm, hx, hrun]
  exact hK' _ _ hK

set_option maxRecDepth 100000 in
theorem round_of1 (v : Int) (w : World) (h : I64 v) : Calls Tryz.prog 94 #[.int .i64 v, .int .i64 1] w fun x w' => x = .returned (.int .i64 0) ∧ w' = w := by
  obtain ⟨h0, h1⟩ := h
  have e1 : Int.tmod v 1 = 0 := by simp
  go_enter Tryz.func94, Tryz.ntmps94
  go_wp2
  go_ret
  exact ⟨rfl, rfl⟩

/-- Hand's answer. -/
def haE (nm : ByteArray) : Int := if nmOK nm then 9 else 5

section
variable {w : World} {d : Nat} {off : Bool} {cs : Int} {fs : List (Int × Int)}

set_option maxRecDepth 100000 in
set_option maxHeartbeats 1600000 in
theorem hand_z (nm : ByteArray) (ao : Option Addr) (n c : Nat) (h : ZD w d off cs fs) (hs : nm.size ≤ maxLen) :
    Calls Tryz.prog 27 #[.pointer (some ⟨d, 0, none⟩), .string nm, .slice ao n c] w fun x w' => x = .returned (.int .i64 (haE nm)) ∧ Below w.heap.size w w' := by
  obtain ⟨L, k1, k2, hd, hL, hk⟩ := h
  obtain ⟨c0, c1, c2, c3, c4, c5, c6, c7, c8, c9, c10, c11⟩ := hd.cells
  have hdl := hp_lt hd
  clear hd hL hk
  cases hok : nmOK nm
  · have e : haE nm = 5 := by simp [haE, hok]
    rw [e]
    clear e
    go_enter Tryz.func27, Tryz.ntmps27
    go_wp2_with (go_at_call 89; refine (isName_any nm _ hs).mono ?_; rw [hok]; rintro e w' ⟨rfl, rfl⟩)
    go_ret
    exact ⟨rfl, Below.refl _ _⟩
  · have e : haE nm = 9 := by simp [haE, hok]
    rw [e]
    clear e
    go_enter Tryz.func27, Tryz.ntmps27
    go_wp2_with (first
      | (go_at_call 89; refine (isName_any nm _ hs).mono ?_; rw [hok]; rintro e w' ⟨rfl, rfl⟩)
      | (go_at_call 90; refine (mapsClone_nil _).mono ?_; rintro e w' ⟨rfl, e1⟩; rw [e1]; clear e1 w')
      | (at_delete
         refine wpList_del_nil _ rfl _ _ 47 _ rfl rfl 9 3 .string Tryz.underlying47 Tryz.underlying9 rfl _ rfl (key_str _) ?_)
      | (go_at_call 91
         refine (reached_nil d _).mono ?_
         rintro e w2 ⟨rfl, hm2, hb2⟩
         have HB2 := hid (And.intro hm2 hb2)
         clear hm2 hb2)
      | (go_at_call 74
         refine (held_none _ 0 _ HB2.out.1).mono ?_
         rintro e w3 ⟨rfl, hb3⟩
         have a1 := (show w3.cell? ⟨d, 1, none⟩ = some (.int .i64 0) from ((HB2.out.2.trans (hb3.mono HB2.out.2.size)).cell (World.block_lt_of_cell? _ _ c1)).trans c1)
         have HB3 := hid hb3
         clear hb3))
    go_ret
    exact ⟨rfl, HB2.out.2.trans (HB3.out.mono HB2.out.2.size)⟩

set_option maxRecDepth 100000 in
set_option maxHeartbeats 3200000 in
theorem crash_z (pn : Int) (hpn : I64 pn) (ao : Option Addr) (n c : Nat) (h : ZD w d off cs fs) :
    Calls Tryz.prog 28 #[.pointer (some ⟨d, 0, none⟩), .agg #[.int .i64 pn, .slice ao n c]] w fun x w' => x = .returned (.slice none 0 0) ∧ ZD w' d false 0 [] ∧ Kept (fun k => k = d) w w' := by
  have hmm := @run_makeMap Tryz.prog
  have hmf : ∀ (fn : Fn) (first cap : Array Value) (w : World), (Instr.makeFunc fn first cap).run Tryz.prog w = .ok (.func fn first cap) w := fun _ _ _ _ => rfl
  have hb0 : Below w.heap.size w (((w.alloc (.cells #[.int .i64 pn, .slice ao n c] 41)).alloc (.map #[] 0)).alloc (.cells #[.map (some (w.heap.size + 1))] 131)) := (((Below.refl _ _).alloc (Nat.le_refl _) _).alloc (by simp) _).alloc (by simp; omega) _
  have hx0 : (((w.alloc (.cells #[.int .i64 pn, .slice ao n c] 41)).alloc (.map #[] 0)).alloc (.cells #[.map (some (w.heap.size + 1))] 131)).heap[w.heap.size]? = some (.cells #[.int .i64 pn, .slice ao n c] 41 (0, 0)) := hp_alloc (hp_alloc (hp_new _ _) _) _
  have hw0 : (((w.alloc (.cells #[.int .i64 pn, .slice ao n c] 41)).alloc (.map #[] 0)).alloc (.cells #[.map (some (w.heap.size + 1))] 131)).heap[w.heap.size + 2]? = some (.cells #[.map (some (w.heap.size + 1))] 131 (0, 0)) := by
    have := hp_new ((w.alloc (.cells #[.int .i64 pn, .slice ao n c] 41)).alloc (.map #[] 0)) (.cells #[.map (some (w.heap.size + 1))] 131)
    simpa using this
  have hsz0 : (((w.alloc (.cells #[.int .i64 pn, .slice ao n c] 41)).alloc (.map #[] 0)).alloc (.cells #[.map (some (w.heap.size + 1))] 131)).heap.size = w.heap.size + 3 := by simp
  have hdl := h.lt
  obtain ⟨L, k1, k2, hd, hL, hk⟩ := id h
  obtain ⟨c0, c1, c2, c3, c4, c5, c6, c7, c8, c9, c10, c11⟩ := hd.cells
  have hcall := making_nk d L _ ((hb0.cell (World.block_lt_of_cell? _ _ c2)).trans c2) (hL.below hb0)
  have HC := hid hcall
  have HI := hid (And.intro h (And.intro hb0 (And.intro hx0 (And.intro hw0 hsz0))))
  clear h hb0 hx0 hw0 hsz0 hcall hd hL hk c0 c1 c3 c4 c7 c8 c9 c10 c11
  go_enter Tryz.func28, Tryz.ntmps28
  go_wp2_with (
    go_at_call 73
    refine HC.out.mono ?_
    rintro e w1 ⟨rfl, hb1⟩
    have HB1 := hid hb1
    clear hb1)
  obtain ⟨hZ, hb0, hx0, hw0, hsz0⟩ := HI.out
  have hb1 := HB1.out
  have hz1 := hb1.size
  have hbw1 : Below w.heap.size w w1 := hb0.trans (hb1.mono (by omega))
  have hx1 := hp_below hx0 hb1 (by omega)
  have hw1 := hp_below hw0 hb1 (by omega)
  obtain ⟨a0, a1⟩ := cells2 hx1
  have hZ1 := hZ.below hbw1
  obtain ⟨L1, j1, j2, hd1, -, -⟩ := id hZ1
  obtain ⟨-, -, -, -, -, e5, e6, -⟩ := hd1.cells
  have r1 : d < w1.heap.size := by omega
  have r3 : w.heap.size + 2 < w1.heap.size := by omega
  have r4 : w.heap.size < w1.heap.size := by omega
  have HZ1 := hid (And.intro hZ1 (And.intro hbw1 hw1))
  clear hZ hb0 hx0 hw0 hsz0 hb1 hz1 hbw1 hx1 hw1 hZ1 hd1 HI HB1 HC c2 c5 c6 hdl
  refine wp_loop_rounds 1 ?_
  rw [rounds_succ]
  go_wp2_with (go_at_call 90; refine (mapsClone_nil _).mono ?_; rintro e w' ⟨rfl, e1⟩; rw [e1]; clear e1 w')
  have hs48 : ∀ wx : World, (Instr.slice 48 (.slice none 0 0) none (some (.int .i64 0)) none).run Tryz.prog wx = .ok (.slice none 0 0) wx := fun wx => by kernel_rfl
  go_quiet ((go_at_call 94; exact Calls.quiet_of_same (round_of1 pn _ hpn)))
  go_wp2
  refine wp_loop_rounds 1 ?_
  rw [rounds_succ]
  have hst := settle_z (w := w1.drewN nq) (HZ1.out.1.kept (w' := w1.drewN nq) (S := fun _ => False) ⟨rfl, rfl, rfl, Nat.le_refl _, fun _ _ _ => rfl⟩ (fun e => e) (fun _ _ _ _ e => e))
  have HST := hid hst
  clear hst
  go_wp2_with (
    go_at_call 86
    refine HST.out.mono ?_
    rintro e w5 ⟨rfl, hz5, hk5⟩
    obtain ⟨L5, k15, k25, hd5, -, -⟩ := id hz5
    obtain ⟨-, -, -, -, -, -, -, z7, -⟩ := hd5.cells
    have zf := hd5.free
    have H5 := hid (And.intro hz5 hk5)
    clear hz5 hk5 hd5)
  have hz6 : ZD (w5.setCell ⟨d, 7, none⟩ (.bool false)) d false cs fs := by
    obtain ⟨L5, k15, k25, hd5, hL5, hf5⟩ := H5.out.1
    have K : Kept (fun k => k = d) w5 (w5.setCell ⟨d, 7, none⟩ (.bool false)) := (Kept.refl (fun k => k = d) w5).setCell (p := ⟨d, 7, none⟩) (fun _ => rfl) _
    have hmp : ∀ b es c, w5.heap[b]? = some (.map es c) → ¬ b = d := fun b es c hb e => by subst e; exact hp_ne hd5 hb (by simp) rfl
    exact ⟨L5, k15, k25, set_block (i := 7) hd5 _, hL5.kept K (fun b c hb => hmp b _ c hb), hf5.kept K hmp⟩
  have hpl := plan_z hz6 (.slice none 0 0) (.slice none 0 0) [] [] (rf_nil _ 2) (rf_nil _ 2) (by simp) (by simp) (by simp [Value.ownBlock]) (by simp [Value.ownBlock])
  have HPL := hid hpl
  clear hpl hz6
  go_wp2_with (
    go_at_call 19
    refine HPL.out.mono ?_
    rintro e w6 ⟨rfl, hz6, hk6⟩
    have H6 := hid (And.intro hz6 hk6)
    clear hz6 hk6)
  go_wp2_with (
    go_at_call 96
    refine (told_nil 97 _ w6).mono ?_
    rintro e w7 ⟨rfl, hb7⟩
    have H7 := hid hb7
    clear hb7)
  go_ret
  obtain ⟨hz5, hk5⟩ := H5.out
  obtain ⟨hz6, hk6⟩ := H6.out
  obtain ⟨hZ1, hbw1, hw1⟩ := HZ1.out
  have k1' : Kept (fun k => k = d) w w1 := (Kept.ofBelow hbw1).mono (fun _ _ e => e.elim)
  have k5' : Kept (fun k => k = d) w1 w5 := ⟨hk5.os, hk5.tape, hk5.output, hk5.size, hk5.block⟩
  have k55 : Kept (fun k => k = d) w5 (w5.setCell ⟨d, 7, none⟩ (.bool false)) := (Kept.refl (fun k => k = d) w5).setCell (p := ⟨d, 7, none⟩) (fun _ => rfl) _
  refine ⟨rfl, hz6.below H7.out, ?_⟩
  exact ((((k1'.trans k5' (fun _ _ e => e)).trans k55 (fun _ _ e => e)).trans hk6 (fun _ _ e => e)).trans (Kept.ofBelow H7.out) (fun _ _ e => e.elim))

end
end Go.Proofs.YtlmompdfombgeaaGreat

namespace Go.Proofs.YtlmompdfombgeaaGreat
open Go.RowKit Go.MapKept

set_option maxRecDepth 100000 in
theorem Round_of1 (v : Int) (w : World) (h : I64 v) : Calls Tryz.prog 114 #[.int .i64 v, .int .i64 1] w fun x w' => x = .returned (.int .i64 0) ∧ w' = w := by
  obtain ⟨h0, h1⟩ := h
  have e1 : Int.tmod v 1 = 0 := by simp
  go_enter Tryz.func114, Tryz.ntmps114
  go_wp2
  go_ret
  exact ⟨rfl, rfl⟩

section
variable {w : World} {r : Nat} {sv rv : Value} {cs : Int} {off : Bool}

set_option maxRecDepth 100000 in
set_option maxHeartbeats 800000 in
theorem forget_z (h : RB w r sv rv cs off) : Calls Tryz.prog 107 #[.pointer (some ⟨r, 0, none⟩)] w fun x w' => x = .returned (.tuple #[]) ∧ RB w' r sv rv cs off ∧ Kept (fun k => k = r) w w' := by
  obtain ⟨c0, c1, c2, c3, c4, c5, c6, c7, c8, c9, c10⟩ := h.cells
  have ff := h.free
  have H := hid h
  clear h
  go_enter Tryz.func107, Tryz.ntmps107
  go_wp2
  refine wp_loop_rounds 1 ?_
  rw [rounds_succ]
  go_wp2
  go_end0
  exact ⟨rfl, set_block (i := 3) H.out _, (Kept.refl (fun k => k = r) w).setCell (p := ⟨r, 3, none⟩) (fun _ => rfl) _⟩

set_option maxRecDepth 100000 in
set_option maxHeartbeats 800000 in
theorem rappend_z (nm : ByteArray) (ao : Option Addr) (n c : Nat) (h : RB w r sv rv cs off) (hs : nm.size ≤ maxLen) : Calls Tryz.prog 53 #[.pointer (some ⟨r, 0, none⟩), .string nm, .slice ao n c] w fun x w' => x = .returned (.int .i64 (kE off nm)) ∧ Below w.heap.size w w' := by
  have hne := kE_ne off nm
  have HK := hid (known_z h nm hs)
  obtain ⟨q, hq⟩ : ∃ q, q = kE off nm := ⟨_, rfl⟩
  rw [← hq] at hne HK ⊢
  clear h hq
  go_enter Tryz.func53, Tryz.ntmps53
  go_wp2_with (go_at_call 103; refine HK.out.mono ?_; rintro e w1 ⟨rfl, hb⟩; have HB := hid hb; clear hb)
  go_ret
  exact ⟨rfl, HB.out⟩

set_option maxRecDepth 100000 in
set_option maxHeartbeats 800000 in
theorem rtruncate_z (nm : ByteArray) (sz : Int) (h : RB w r sv rv cs off) (hs : nm.size ≤ maxLen) : Calls Tryz.prog 54 #[.pointer (some ⟨r, 0, none⟩), .string nm, .int .i64 sz] w fun x w' => x = .returned (.int .i64 (kE off nm)) ∧ Below w.heap.size w w' := by
  have hne := kE_ne off nm
  have HK := hid (known_z h nm hs)
  obtain ⟨q, hq⟩ : ∃ q, q = kE off nm := ⟨_, rfl⟩
  rw [← hq] at hne HK ⊢
  clear h hq
  go_enter Tryz.func54, Tryz.ntmps54
  go_wp2_with (go_at_call 103; refine HK.out.mono ?_; rintro e w1 ⟨rfl, hb⟩; have HB := hid hb; clear hb)
  go_ret
  exact ⟨rfl, HB.out⟩

set_option maxRecDepth 100000 in
set_option maxHeartbeats 800000 in
theorem rsync_z (nm : ByteArray) (h : RB w r sv rv cs off) (hs : nm.size ≤ maxLen) : Calls Tryz.prog 55 #[.pointer (some ⟨r, 0, none⟩), .string nm] w fun x w' => x = .returned (.int .i64 (kE off nm)) ∧ Below w.heap.size w w' := by
  have hne := kE_ne off nm
  have HK := hid (known_z h nm hs)
  obtain ⟨q, hq⟩ : ∃ q, q = kE off nm := ⟨_, rfl⟩
  rw [← hq] at hne HK ⊢
  clear h hq
  go_enter Tryz.func55, Tryz.ntmps55
  go_wp2_with (go_at_call 103; refine HK.out.mono ?_; rintro e w1 ⟨rfl, hb⟩; have HB := hid hb; clear hb)
  go_ret
  exact ⟨rfl, HB.out⟩

set_option maxRecDepth 100000 in
set_option maxHeartbeats 800000 in
theorem rremove_z (nm : ByteArray) (h : RB w r sv rv cs off) (hs : nm.size ≤ maxLen) : Calls Tryz.prog 58 #[.pointer (some ⟨r, 0, none⟩), .string nm] w fun x w' => x = .returned (.int .i64 (kE off nm)) ∧ Below w.heap.size w w' := by
  have hne := kE_ne off nm
  have HK := hid (known_z h nm hs)
  obtain ⟨q, hq⟩ : ∃ q, q = kE off nm := ⟨_, rfl⟩
  rw [← hq] at hne HK ⊢
  clear h hq
  go_enter Tryz.func58, Tryz.ntmps58
  go_wp2_with (go_at_call 103; refine HK.out.mono ?_; rintro e w1 ⟨rfl, hb⟩; have HB := hid hb; clear hb)
  go_ret
  exact ⟨rfl, HB.out⟩

set_option maxRecDepth 100000 in
set_option maxHeartbeats 800000 in
theorem rread_z (nm : ByteArray) (h : RB w r sv rv cs off) (hs : nm.size ≤ maxLen) : Calls Tryz.prog 59 #[.pointer (some ⟨r, 0, none⟩), .string nm] w fun x w' => x = .returned (.tuple #[.slice none 0 0, .int .i64 (kE off nm)]) ∧ Below w.heap.size w w' := by
  have hne := kE_ne off nm
  have HK := hid (known_z h nm hs)
  obtain ⟨q, hq⟩ : ∃ q, q = kE off nm := ⟨_, rfl⟩
  rw [← hq] at hne HK ⊢
  clear h hq
  go_enter Tryz.func59, Tryz.ntmps59
  go_wp2_with (go_at_call 103; refine HK.out.mono ?_; rintro e w1 ⟨rfl, hb⟩; have HB := hid hb; clear hb)
  go_ret2
  exact ⟨rfl, HB.out⟩

set_option maxRecDepth 100000 in
set_option maxHeartbeats 1600000 in
theorem rrename_z (nm mn : ByteArray) (h : RB w r sv rv cs off) (hs : nm.size ≤ maxLen) (hs1 : mn.size ≤ maxLen) : Calls Tryz.prog 57 #[.pointer (some ⟨r, 0, none⟩), .string nm, .string mn] w fun x w' => x = .returned (.int .i64 (rnE off nm mn)) ∧ Below w.heap.size w w' := by
  have HK := hid (known_z h nm hs)
  clear h
  cases off
  · cases hok : nmOK nm
    · have e1 : kE false nm = 5 := by simp [kE, hok]
      have e2 : rnE false nm mn = 5 := by simp [rnE, hok]
      rw [e2]
      rw [e1] at HK
      clear e1 e2
      go_enter Tryz.func57, Tryz.ntmps57
      go_wp2_with (go_at_call 103; refine HK.out.mono ?_; rintro e w1 ⟨rfl, hb⟩; have HB := hid hb; clear hb)
      go_ret
      exact ⟨rfl, HB.out⟩
    · have e1 : kE false nm = 6 := by simp [kE, hok]
      rw [e1] at HK
      cases hok1 : nmOK mn
      · have e2 : rnE false nm mn = 5 := by simp [rnE, hok1]
        rw [e2]
        clear e1 e2
        go_enter Tryz.func57, Tryz.ntmps57
        go_wp2_with (first
          | (go_at_call 103; refine HK.out.mono ?_; rintro e w1 ⟨rfl, hb⟩; have HB := hid hb; clear hb)
          | (go_at_call 108; refine (risName_any mn _ hs1).mono ?_; rw [hok1]; rintro e w' ⟨rfl, rfl⟩))
        go_ret
        exact ⟨rfl, HB.out⟩
      · have e2 : rnE false nm mn = 6 := by simp [rnE, hok, hok1]
        rw [e2]
        clear e1 e2
        go_enter Tryz.func57, Tryz.ntmps57
        go_wp2_with (first
          | (go_at_call 103; refine HK.out.mono ?_; rintro e w1 ⟨rfl, hb⟩; have HB := hid hb; clear hb)
          | (go_at_call 108; refine (risName_any mn _ hs1).mono ?_; rw [hok1]; rintro e w' ⟨rfl, rfl⟩))
        go_ret
        exact ⟨rfl, HB.out⟩
  · have e1 : kE true nm = 11 := by simp [kE]
    have e2 : rnE true nm mn = 11 := by simp [rnE]
    rw [e2]
    rw [e1] at HK
    clear e1 e2
    go_enter Tryz.func57, Tryz.ntmps57
    go_wp2_with (go_at_call 103; refine HK.out.mono ?_; rintro e w1 ⟨rfl, hb⟩; have HB := hid hb; clear hb)
    go_ret
    exact ⟨rfl, HB.out⟩

end
end Go.Proofs.YtlmompdfombgeaaGreat
