import Derived.Test.YthcoigbkdbkojabGreatK12
set_option maxRecDepth 100000
namespace Go.Proofs.YthcoigbkdbkojabGreat
open Go.RowKit Go.MapKept
open V (hp_new hp_lt hp_below hp_alloc)
theorem ones3 (a b c : Value) (h1 : a.oneCell' = true) (h2 : b.oneCell' = true) (h3 : c.oneCell' = true) : ∀ u ∈ (#[a, b, c] : Array Value).toList, u.oneCell' = true := by
  intro u hu
  simp at hu
  rcases hu with rfl | rfl | rfl <;> assumption
section
variable {w w' : World} {B mb M : Nat} {s : Ms} {td : List Vd} {lk : List (ByteArray × ByteArray)} {kv : List (ByteArray × Value)}
set_option maxHeartbeats 3200000 in
theorem tell_m (x : Ins) (h : MX w B mb s td lk M kv) (a0 : 0 ≤ x.a) (a1 : x.a < 16) (hl : td.length < 64) (hz : (s.rg x.a).t.size ≤ 281474976710656) :
    Calls Tryz.prog 77 #[.pointer (some ⟨mb, 0, none⟩), x.val] w fun e w' => ∃ v', Did B w mb s { s with tv := v' } (td ++ [s.rg x.a]) lk M kv e w' := by
  obtain ⟨op, a, b, c, n', vk, vi, vt⟩ := x
  dsimp only at a0 a1 hz ⊢
  obtain ⟨a, rfl⟩ := Int.eq_ofNat_of_zero_le a0
  obtain ⟨al, cl, htv⟩ := own_shape h.td
  have hb0 : Below w.heap.size w (w.alloc (io op a b c n' vk vi vt)) := below1 w _
  have hx0 := h.below hb0
  obtain ⟨-, y1, -⟩ := cells8 (hp_new w (io op a b c n' vk vi vt))
  have htd := h.td
  rw [htv] at htd
  have HS := hid (show ∀ W, Below (w.alloc (io op a b c n' vk vi vt)).heap.size (w.alloc (io op a b c n' vk vi vt)) W → W.cell? ⟨w.heap.size, 1, none⟩ = some (.int .i64 a) ∧ W.cell? ⟨mb, 51, none⟩ = some (.slice al td.length cl) ∧ W.cell? ⟨mb, 3 + a * 3, none⟩ = some (.int .i64 (s.rg a).k) ∧ W.cell? ⟨mb, 3 + a * 3 + 1, none⟩ = some (.int .i64 (s.rg a).i) ∧ W.cell? ⟨mb, 3 + a * 3 + 2, none⟩ = some (.string (s.rg a).t) from fun W hb => by
    have hxW := hx0.below hb
    obtain ⟨-, -, -, c3, -, -⟩ := hxW.m.cells
    rw [htv] at c3
    obtain ⟨r0, r1, r2⟩ := hxW.m.reg a a0 a1
    rw [Int.toNat_natCast] at r0 r1 r2
    exact ⟨(hb.cell (World.block_lt_of_cell? _ _ y1)).trans y1, c3, r0, r1, r2⟩)
  have HNM := hid (show ∀ W, Kept (fun k => (Value.slice al td.length cl).ownBlock = some k) w W → Mb W mb s ∧ W.cell? ⟨mb, 51, none⟩ = some (.slice al td.length cl) from fun W hk => by
    obtain ⟨cs, hbm, -⟩ := h.m.ex
    have h2 := h.m.kept hk (fun e => owns_blk htd e hbm (fun cs e => by injection e with _ e; cases e))
    obtain ⟨-, -, -, c, -, -⟩ := h2.cells
    rw [htv] at c
    exact ⟨h2, c⟩)
  have hne : ¬ (td.length : Int) = 64 := by omega
  have HC := hid (fun W => copied_m (s.rg a).k (s.rg a).i (s.rg a).t hz W)
  have HX := hid (And.intro h (And.intro hb0 (And.intro htv htd)))
  obtain ⟨t1, t2, t3, t4, t5⟩ := HS.out _ (Below.refl _ _)
  clear h hx0 hb0 htd htv y1
  unfold Ins.val
  go_enter Tryz.func77, Tryz.ntmps77
  go_upto_region 3 with fail
  clear t1 t2 t3 t4 t5
  obtain ⟨t1, t2, t3, t4, t5⟩ := HS.out _ ((Below.refl _ _).drew)
  go_region_law
    (first
      | (refine step_append_rf _ (by rfl) (.tmp 15) (.tmp 24) 35 29 _ 3 32 (by rfl) Tryz.underlying35 Tryz.info29 rfl (by omega) B (.slice al td.length cl) td.length (td.flatMap vcs) (by rfl) (HO.out.alloc _) (.slice (some ⟨w2.heap.size, 0, none⟩) 1 1) 1 [.int .i64 (s.rg a).k, .int .i64 (s.rg a).i, .string (s.rg a).t] (by rfl) (rf_new w2 29 #[.int .i64 (s.rg a).k, .int .i64 (s.rg a).i, .string (s.rg a).t] 3 rfl (ones3 _ _ _ rfl rfl rfl)) (by omega) (by unfold maxLen; omega) HZ.out ?_; intro a9 c9 w9 hown hgr hob; have HGR := hid (And.intro hown.out hgr.out); have hm9 := HNM.out w9 (((Kept.ofBelow HB2.out).mono (S' := fun k => (Value.slice al td.length cl).ownBlock = some k) (fun _ _ e => e.elim)).trans (((Kept.refl _ w2).alloc _).grown hgr.out (fun _ _ e => e)) (fun _ _ e => e)); have k9 := hm9.2; have hfz9 := hm9.1.free; have hml9 := hm9.1.lt; clear hown hgr hob hm9)
      | (go_simp; go_wp2_with (go_at_call 81; refine (HC.out _).mono ?_; rintro e w2 ⟨rfl, hb2'⟩; have hb2 := (show Below (w.alloc (io op a b c n' vk vi vt)).heap.size (w.alloc (io op a b c n' vk vi vt)) w2 from ⟨hb2'.os, hb2'.tape, hb2'.output, hb2'.size, hb2'.block⟩); obtain ⟨k1, k2, k3, k4, k5⟩ := HS.out _ hb2; have HB2 := hid (below_on HX.out.2.1 hb2); have HO := hid (ownsRow_kept HX.out.2.2.2 (Kept.ofBelow HB2.out) (fun _ _ e => e)); have HZ := hid (show B ≤ (w2.alloc (.cells #[.int .i64 (s.rg a).k, .int .i64 (s.rg a).i, .string (s.rg a).t] 29)).heap.size by have h1 := HX.out.1.bB; have h2 := HB2.out.size; simp; omega); obtain ⟨k6, k7, k8, k9', k10⟩ := HS.out (w2.alloc (.cells #[.int .i64 (s.rg a).k, .int .i64 (s.rg a).i, .string (s.rg a).t] 29)) (hb2.alloc hb2.size _); clear hb2 hb2')))
  all_goals
    go_end0
    have ha := HX.out.1.addTold (w1 := w2.alloc (.cells #[.int .i64 (s.rg a).k, .int .i64 (s.rg a).i, .string (s.rg a).t] 29)) (v := s.rg a) (HB2.out.alloc HB2.out.size _) HGR.out.1 (by rw [HX.out.2.2.1]; exact HGR.out.2)
    exact ⟨_, rfl, ha.1, ha.2⟩
end
end Go.Proofs.YthcoigbkdbkojabGreat
namespace Go.Proofs.YthcoigbkdbkojabGreat
open Go.RowKit
open V (hp_new hp_lt hp_below hp_alloc)
theorem Rf.elem {w : World} {α : Type} {f : α → List Value} {m : Nat} {v : Value} {xs : List α} (hf : ∀ x, (f x).length = m) (hm : 0 < m) (h : Rf w m v xs.length (xs.flatMap f)) (k : Nat) (hk : k < xs.length) :
    ∃ b off cap, v = .slice (some ⟨b, off, none⟩) xs.length cap ∧ xs.length ≤ cap ∧ cap ≤ maxLen ∧ ∀ c u, (f xs[k])[c]? = some u → w.cell? ⟨b, off + k * m + c, none⟩ = some u := by
  obtain ⟨b, off, cap, rfl, h1, h2, h3⟩ := h.lits (by omega) hm
  refine ⟨b, off, cap, rfl, h1, h2, fun c u hu => ?_⟩
  have hc : c < m := by
    rcases Nat.lt_or_ge c m with h | h
    · exact h
    · rw [List.getElem?_eq_none (by rw [hf]; exact h)] at hu
      cases hu
  have := h3 (k * m + c) u (by rw [flat_get f m hf _ _ _ hc]; simp [hk, hu])
  rwa [← Nat.add_assoc] at this
def ecs (x : ByteArray × Vd) : List Value := [.string x.1, .int .i64 x.2.k, .int .i64 x.2.i, .string x.2.t]
abbrev pdOf (v : Vd) : V.Pd := ⟨v.k, v.i, v.t⟩
def stG (l : List (ByteArray × Vd)) : ByteArray → Option V.Pd := l.foldl (fun g x => V.updG g x.1 (pdOf x.2)) (fun _ => none)
theorem stG_succ (l : List (ByteArray × Vd)) (k : Nat) (h : k < l.length) : stG (l.take (k + 1)) = V.updG (stG (l.take k)) l[k].1 (pdOf l[k].2) := by
  unfold stG
  rw [List.take_succ_eq_append_getElem h, List.foldl_append]
  rfl
set_option maxHeartbeats 3200000 in
theorem store_any (v : Value) (pa : Option Addr) (pn pc : Nat) (l : List (ByteArray × Vd)) (w : World) (h : Rf w 4 v l.length (l.flatMap ecs)) (hl : l.length ≤ 1000) (hk : ∀ x ∈ l, x.1.size ≤ 1000000) :
    Calls Tryz.prog 8 #[.agg #[v, .slice pa pn pc]] w fun e w' => ∃ p, e = .returned (.pointer (some ⟨p, 0, none⟩)) ∧ V.PV w' p (stG l) false l.length (w.heap.size + 1) ∧ Below w.heap.size w w' := by
  obtain ⟨ao, cap, rfl, -, -⟩ := h.shape
  have hb0 : Below w.heap.size w (w.alloc (.cells #[.slice ao l.length cap, .slice pa pn pc] 26)) := below1 w _
  have HN := hid (V.pnew (w.alloc (.cells #[.slice ao l.length cap, .slice pa pn pc] 26)))
  have H := hid (And.intro h (And.intro hb0 hk))
  clear h hb0 hk
  go_enter Tryz.func8, Tryz.ntmps8
  go_wp2_with (
    go_at_call 23
    refine HN.out.mono ?_
    rintro e w1 ⟨rfl, hq1⟩
    have H1 := hid hq1.out
    clear hq1)
  have es : (w.alloc (.cells #[.slice ao l.length cap, .slice pa pn pc] 26)).heap.size = w.heap.size + 1 := by simp
  rw [es] at H1
  have HC := hid (show ∀ W, Below (w.heap.size + 1) w1 W → W.cell? ⟨w.heap.size, 0, none⟩ = some (.slice ao l.length cap) ∧ Below w.heap.size w W from fun W hb => by
    have hw1 : w1.heap[w.heap.size]? = some (.cells #[.slice ao l.length cap, .slice pa pn pc] 26) := blk_of H1.out.2 (hp_new w _) (Nat.lt_succ_self _)
    have hW := blk_of hb hw1 (Nat.lt_succ_self _)
    exact ⟨by rw [cell_of_row _ _ _ _ _ _ hW]; rfl, (H.out.2.1.trans (H1.out.2.mono (Nat.le_succ _))).trans (hb.mono (Nat.le_succ _))⟩)
  go_loopw [4] (fun ix wr => ∃ k : Nat, k ≤ l.length ∧ ix = .int .i64 k ∧ Hid (V.PV wr (w.heap.size + 1) (stG (l.take k)) false k (w.heap.size + 1) ∧ Below (w.heap.size + 1) w1 wr)) (fun ix _ => l.length - (intOf ix).toNat)
  case atStart => exact ⟨0, Nat.zero_le _, by go_num, hid ⟨H1.out.1, Below.refl _ _⟩⟩
  case round =>
    obtain ⟨k, hk, rfl, HR⟩ := hrel
    obtain ⟨b0, hbw⟩ := HC.out wr HR.out.2
    by_cases hlt : k < l.length
    · have i1 : (k : Int) < (l.length : Int) := by omega
      obtain ⟨bb, off, cap', e, -, -, hcell⟩ := Rf.elem (f := ecs) (fun _ => rfl) (by omega) H.out.1 k hlt
      injection e with e1 e2 e3
      subst e1 e3
      clear e2
      have hsz := H.out.2.2 l[k] (List.getElem_mem hlt)
      have hsu := stG_succ l k hlt
      obtain ⟨x, hx⟩ : ∃ x, x = l[k] := ⟨_, rfl⟩
      rw [← hx] at hcell hsz hsu
      obtain ⟨key, vd⟩ := x
      have HS := hid (show ∀ W, Below (w.heap.size + 1) w1 W → W.cell? ⟨w.heap.size, 0, none⟩ = some (.slice (some ⟨bb, off, none⟩) l.length cap) ∧ W.cell? ⟨bb, off + k * 4, none⟩ = some (.string key) ∧ W.cell? ⟨bb, off + k * 4 + 1, none⟩ = some (.int .i64 vd.k) ∧ W.cell? ⟨bb, off + k * 4 + 1 + 1, none⟩ = some (.int .i64 vd.i) ∧ W.cell? ⟨bb, off + k * 4 + 1 + 2, none⟩ = some (.string vd.t) from fun W hb => by
        obtain ⟨q0, q1⟩ := HC.out W hb
        have cc : ∀ c u, (ecs (key, vd))[c]? = some u → W.cell? ⟨bb, off + k * 4 + c, none⟩ = some u := fun c u hu => (q1.cell (World.block_lt_of_cell? _ _ (hcell c u hu))).trans (hcell c u hu)
        exact ⟨q0, cc 0 _ rfl, cc 1 _ rfl, cc 2 _ rfl, cc 3 _ rfl⟩)
      have HP := hid (V.pput (w.heap.size + 1) key (pdOf vd) _ false k (w.heap.size + 1) wr.drew (HR.out.1.below ((Below.refl _ wr).drew)) (by have := HR.out.2.size; have := H1.out.2.size; show _ ≤ wr.heap.size; omega) (by omega) (by dsimp only at hsz; omega))
      have HSU := hid hsu
      clear hcell hsz hsu hx
      go_upto_region 5 with fail
      go_region_held3 (fun wx => wx.cell? ⟨w.heap.size, 0, none⟩ = some (.slice (some ⟨bb, off, none⟩) l.length cap) ∧ wx.cell? ⟨bb, off + k * 4, none⟩ = some (.string key) ∧ wx.cell? ⟨bb, off + k * 4 + 1, none⟩ = some (.int .i64 vd.k) ∧ wx.cell? ⟨bb, off + k * 4 + 1 + 1, none⟩ = some (.int .i64 vd.i) ∧ wx.cell? ⟨bb, off + k * 4 + 1 + 2, none⟩ = some (.string vd.t))
        (first | exact HS.out _ HR.out.2.drew | exact HS.out _ H2.out.2)
        (first
        | (go_at_call 24
           refine HP.out.mono ?_
           rintro e w2 ⟨rfl, hp2, hk2⟩
           have H2 := hid (And.intro hp2 (show Below (w.heap.size + 1) w1 w2 from HR.out.2.drew.trans ((kept_v hk2).below (by have := HR.out.2.size; have := H1.out.2.size; show _ ≤ wr.heap.size; omega) (fun k hk e => by omega))))
           clear hp2 hk2))
      go_wp2_with fail
      go_roundw
      case rel => exact ⟨k + 1, by omega, by go_num, hid ⟨by rw [HSU.out]; exact H2.out.1, H2.out.2⟩⟩
      case measure => simp [intOf]; omega
    · obtain rfl : l.length = k := by omega
      have i1 : ¬ (l.length : Int) < (l.length : Int) := by omega
      go_wp2_with fail
      go_ret
      have h9 := HR.out.1
      rw [List.take_length] at h9
      exact ⟨_, rfl, h9, hbw⟩
end Go.Proofs.YthcoigbkdbkojabGreat
namespace Go.Proofs.YthcoigbkdbkojabGreat
open Go.RowKit
open V (hp_new hp_lt hp_below hp_alloc kl)
def vdOf (p : V.Pd) : Vd := ⟨p.n, p.a, p.ao⟩
def Asc (L : KV) : Prop := L.Pairwise (fun a b => kl a.1 b.1 = true)
def VL (w : World) (p : Nat) (L : KV) : Prop := ∃ t f c, V.ZS w p t f c false ∧ (∀ e ∈ t.toL, (f (V.bk e.2.2)).has (f (V.bk e.2.2)).r = true) ∧ t.toL.map (fun e => (e.2.1, vdOf (V.rdS (f (V.bk e.2.2))))) = L
theorem VL.below {w w' : World} {p : Nat} {L : KV} (h : VL w p L) (hb : Below w.heap.size w w') : VL w' p L := by
  obtain ⟨t, f, c, hz, hr⟩ := h
  exact ⟨t, f, c, hz.below hb, hr⟩
theorem VL.asc {w : World} {p : Nat} {L : KV} (h : VL w p L) : Asc L := by
  obtain ⟨t, f, c, hz, hr, rfl⟩ := h
  unfold Asc
  rw [List.pairwise_map]
  exact hz.tb.rs
theorem lkp_map {f : V.En → Vd} (key : ByteArray) : ∀ (l : List V.En), lkp key (l.map (fun e => (e.2.1, f e))) = (V.ent key l).map f
  | [] => rfl
  | e :: l => by
    unfold V.ent
    rw [List.map_cons, List.find?_cons]
    unfold lkp
    by_cases h : e.2.1 = key
    · rw [if_pos h, show (e.2.1.toList == key.toList) = true by simp [h]]
      rfl
    · rw [if_neg h, show (e.2.1.toList == key.toList) = false from V.keq_false h]
      exact lkp_map key l
theorem VL.of {w : World} {p : Nat} {g : ByteArray → Option V.Pd} {n B : Nat} (h : V.PV w p g false n B) : ∃ L, VL w p L ∧ L.length ≤ n ∧ ∀ k, lkp k L = (g k).map vdOf := by
  obtain ⟨t, f, c, hz, hc, hn, hs, hg, b1, b2, b3⟩ := h.ex
  refine ⟨_, ⟨t, f, c, hz, hs, rfl⟩, by rw [List.length_map]; exact hn, fun k => ?_⟩
  rw [lkp_map (f := fun e => vdOf (V.rdS (f (V.bk e.2.2)))), ← hg k, Option.map_map]
  rfl
def z0 : Vd := ⟨0, 0, emp⟩
theorem vget (w : World) (p : Nat) (L : KV) (key : ByteArray) (h : VL w p L) :
    Calls Tryz.prog 30 #[.pointer (some ⟨p, 0, none⟩), .string key] w fun e w' => e = .returned (.tuple #[((lkp key L).getD z0).val, .bool (lkp key L).isSome]) ∧ Below w.heap.size w w' := by
  obtain ⟨t, f, c, hz, hs, rfl⟩ := h
  refine (V.sget_any p key t f c false w hz).mono ?_
  rintro x w' ⟨rfl, hb⟩
  refine ⟨?_, hb⟩
  rw [lkp_map (f := fun e => vdOf (V.rdS (f (V.bk e.2.2))))]
  unfold V.zget
  cases hq : V.ent key t.toL with
  | none => rfl
  | some e =>
    have hm := (V.ent_some hq).1
    obtain ⟨b, hb2, -⟩ := hz.sl e hm
    have hh := hs e hm
    rw [hb2] at hh
    dsimp only [Option.map_some, Option.getD_some]
    rw [hb2]
    show Ending.returned (.tuple #[((f b).copy (f b).r).agg, .bool ((f b).has (f b).r)]) = _
    have hh2 : (f b).has (f b).r = true := hh
    rw [hh2]
    rfl
def nxt (L : KV) (text : ByteArray) : Option (ByteArray × Vd) := L.find? (fun x => kl text x.1)
theorem vnext (w : World) (p : Nat) (L : KV) (text : ByteArray) (h : VL w p L) (h1 : text.size ≤ 281474976710000) :
    Calls Tryz.prog 29 #[.pointer (some ⟨p, 0, none⟩), .string text] w fun e w' => e = .returned (.tuple #[.string (((nxt L text).map Prod.fst).getD emp), .bool (nxt L text).isSome]) ∧ Below w.heap.size w w' := by
  obtain ⟨t, f, c, hz, hs, rfl⟩ := h
  have hL := V.least46 p (V.bhd text) ⟨#[]⟩ t f c false w hz (by rw [V.bhd_size]; omega) (Nat.zero_le _)
  have hfit : V.leastE false f (V.bhd text) ⟨#[]⟩ t.toL = t.toL.find? (fun e => kl text e.2.1) := by
    unfold V.leastE
    have : ∀ (l : List V.En), (∀ e ∈ l, (f (V.bk e.2.2)).has (f (V.bk e.2.2)).r = true) → l.find? (V.fitE false f (V.bhd text) ⟨#[]⟩) = l.find? (fun e => kl text e.2.1) := by
      intro l
      induction l with
      | nil => intro _; rfl
      | cons a l ih =>
        intro hl
        have h2 : V.fitE false f (V.bhd text) ⟨#[]⟩ a = kl text a.2.1 := by
          unfold V.fitE V.see
          have h3 := hl a (by simp)
          simp only [Bool.false_eq_true, if_false, h3, V.kl_behind, emp_toList]
          simp
        rw [List.find?_cons, List.find?_cons, h2, ih (fun e he => hl e (by simp [he]))]
    exact this _ hs
  have hn : nxt (t.toL.map (fun e => (e.2.1, vdOf (V.rdS (f (V.bk e.2.2)))))) text = (t.toL.find? (fun e => kl text e.2.1)).map (fun e => (e.2.1, vdOf (V.rdS (f (V.bk e.2.2))))) := by
    unfold nxt
    rw [List.find?_map]
    rfl
  rw [hn]
  unfold V.leastV at hL
  rw [hfit] at hL
  cases hq : t.toL.find? (fun e => kl text e.2.1) with
  | none =>
    rw [hq] at hL
    exact V.snext_any _ text _ _ _ w h1 hL
  | some e =>
    rw [hq] at hL
    exact V.snext_any _ text _ _ _ w h1 hL
end Go.Proofs.YthcoigbkdbkojabGreat
namespace Go.Proofs.YthcoigbkdbkojabGreat
open Go.RowKit Go.MapKept
open V (hp_new hp_lt hp_below hp_alloc kl)
theorem set_iter {w : World} {ib : Nat} {x : Option Nat} {y : Nat} {z : Array Nat} {u : Nat} (h : w.heap[ib]? = some (.mapIter x y z u)) (o' : Obj) : (setObj ib o').run Tryz.prog w = .ok () (puts w ib o') := by
  simp only [setObj, Sem.run]
  rw [h]
  rfl
theorem choose_dn (n : Nat) (w : World) (h : 0 < n) : ∃ j m, j < n ∧ (choose (Question.mapNext n)).run Tryz.prog w = .ok j (w.drewN m) := by
  by_cases hf : n ≤ 1
  · exact ⟨0, 0, h, by simp [choose, Sem.run, Question.forced, hf]; rfl⟩
  · exact ⟨_, 1, Nat.mod_lt _ h, by
      simp only [choose, Sem.run, Question.forced, decide_eq_true_eq, hf, if_false, Question.cut]
      rfl⟩
theorem next_at (w : World) (ty : TypeId) (ib bm c : Nat) (seen : Array Nat) (es : Array MapEntry) (hi : w.heap[ib]? = some (.mapIter (some bm) c seen c)) (hb : w.heap[bm]? = some (.map es c)) (hold : ∀ x ∈ es.toList, x.born < c) :
    ((leftOf es seen).size = 0 ∧ (Instr.next (.pointer (some ⟨ib, 0, none⟩)) false ty).run Tryz.prog w = .ok (.tuple #[.bool false]) w) ∨
    ∃ e ∈ (leftOf es seen).toList, ∃ m, (Instr.next (.pointer (some ⟨ib, 0, none⟩)) false ty).run Tryz.prog w = .ok (.tuple #[.bool true, e.key, e.val]) (puts (w.drewN m) ib (.mapIter (some bm) c (seen.push e.born) c)) := by
  have hm : ∀ x ∈ (leftOf es seen).toList, x.born < c := fun x hx => hold x (by simp [leftOf] at hx ⊢; exact hx.1)
  have e1 : (leftOf es seen).filter (fun x => decide (x.born < c)) = leftOf es seen := Array.filter_eq_self.2 (fun x hx => by simpa using hm x (by simpa using hx))
  have e2 : (leftOf es seen).filter (fun x => decide (x.born ≥ c)) = #[] := by
    rw [Array.filter_eq_empty_iff]
    intro x hx
    have := hm x (by simpa using hx)
    simp
    omega
  simp only [Instr.next, getObj, Sem.run_bind, Sem.run, hi, hb, Result.andThen, next_test_false seen es c c hold (Nat.le_refl _), Bool.false_eq_true, if_false]
  unfold leftOf at e1 e2 ⊢
  generalize Array.filter (fun e => !seen.contains e.born) es = L at e1 e2 ⊢
  simp only [e1, e2, Array.append_empty]
  by_cases h0 : L.size = 0
  · left
    obtain rfl : L = #[] := Array.eq_empty_of_size_eq_zero h0
    exact ⟨rfl, by simp [choose, Sem.run, Question.forced]⟩
  · right
    obtain ⟨j, m, hj, hrun⟩ := choose_dn L.size w (by omega)
    have hne : L.isEmpty = false := by simp [Array.isEmpty, h0]
    refine ⟨L[j], by simp, m, ?_⟩
    have hs' : (setObj ib (.mapIter (some bm) c (seen.push L[j].born) c)).run Tryz.prog (w.drewN m) = .ok () (puts (w.drewN m) ib (.mapIter (some bm) c (seen.push L[j].born) c)) := set_iter (w := w.drewN m) hi _
    simp only [hne, Bool.false_eq_true, if_false, Array.empty_append, Array.size_map, hrun, Array.getElem?_map, Array.getElem?_eq_getElem hj, Option.map_some, Sem.run_bind, Result.andThen]
    simp only [hs']
    rfl
theorem entry_at (w : World) (ib bm c : Nat) (seen : Array Nat) (es : Array MapEntry) (e : MapEntry) (hi : w.heap[ib]? = some (.mapIter (some bm) c (seen.push e.born) c)) (hb : w.heap[bm]? = some (.map es c)) (he : e ∈ es.toList) (hn : (es.toList.map (·.born)).Nodup) :
    (Instr.entry (.pointer (some ⟨ib, 0, none⟩))).run Tryz.prog w = .ok (.tuple #[e.key, e.val]) w := by
  have hf : es.find? (·.born == e.born) = some e := by rw [← Array.find?_toList]; exact find_born e es.toList hn he
  simp only [Instr.entry, getObj, Sem.run_bind, Sem.run, hi, hb, Result.andThen, Array.back?_push, bne_self_eq_false, Bool.false_eq_true, if_false, hf]
  rfl
theorem left_push (es : Array MapEntry) (seen : Array Nat) (b : Nat) : (leftOf es (seen.push b)).toList = (leftOf es seen).toList.filter (fun x => !(x.born == b)) := by
  simp only [leftOf, Array.toList_filter, List.filter_filter]
  congr 1
  funext x
  by_cases h : x.born = b <;> simp [h]
theorem left_zero (es : Array MapEntry) : (leftOf es #[]).toList = es.toList := by
  simp [leftOf]
theorem left_less {es : Array MapEntry} {seen : Array Nat} {e : MapEntry} (he : e ∈ (leftOf es seen).toList) : (leftOf es (seen.push e.born)).size < (leftOf es seen).size := by
  have e1 : (leftOf es (seen.push e.born)).size = (leftOf es (seen.push e.born)).toList.length := by simp
  have e2 : (leftOf es seen).size = (leftOf es seen).toList.length := by simp
  rw [e1, e2, left_push]
  exact List.length_filter_lt_length_iff_exists.2 ⟨e, he, by simp⟩
def seenF (L l : KV) (key : ByteArray) : Vd := match lkp key l with | some v => v | none => (lkp key L).getD z0
section
variable {w w' : World} {B mb M : Nat} {s : Ms} {td : List Vd} {lk : List (ByteArray × ByteArray)} {l : KV}
theorem MX.lookG (h : MX w B mb s td lk M (kvV l)) (key : ByteArray) : (Instr.lookup 74 (.map (some M)) (.string key) true).run Tryz.prog w = .ok (.tuple #[((lkp key l).getD z0).val, .bool (lkp key l).isSome]) w := by
  obtain ⟨es, c, g⟩ := h.mg
  have h1 := g.look Tryz.underlying74 Tryz.underlying9 (zero28 w) key true
  unfold kvV at h1
  rw [look_gen Vd.val, ← lkp_lkG] at h1
  refine h1.trans ?_
  cases lkp key l <;> rfl
set_option maxHeartbeats 3200000 in
theorem seen_own (key : ByteArray) (v : Vd) (h : MX w B mb s td lk M (kvV l)) (hv : lkp key l = some v) :
    Calls Tryz.prog 93 #[.pointer (some ⟨mb, 0, none⟩), .string key] w fun e w' => e = .returned v.val ∧ Below w.heap.size w w' := by
  have hb1 : Below w.heap.size w (w.alloc (vo 0 0 emp)) := below1 w _
  have h1 := h.below hb1
  have hl1 := h1.lookG key
  rw [hv] at hl1
  obtain ⟨a0, -, -, -, a4, -⟩ := h1.m.cells
  rw [h.wv] at a4
  have hml := h.m.lt
  obtain ⟨vk, vi, vt⟩ := v
  have hl2 : (Instr.lookup 74 (.map (some M)) (.string key) true).run Tryz.prog (w.alloc (vo 0 0 emp)) = .ok (.tuple #[vl vk vi vt, .bool true]) (w.alloc (vo 0 0 emp)) := hl1
  have HB := hid hb1
  clear h h1 hv hb1 hl1
  go_enter Tryz.func93, Tryz.ntmps93
  go_wp2
  go_returns
  exact ⟨rfl, (below1 w _).alloc (by simp) _⟩
set_option maxHeartbeats 3200000 in
theorem seen_view (key : ByteArray) (p : Nat) (v : Vd) (q : Bool) (h : MX w B mb s td lk M (kvV l)) (hv : s.vw = .iface 42 (.pointer (some ⟨p, 0, none⟩))) (hn : lkp key l = none)
    (hg : ∀ W, Below w.heap.size w W → Calls Tryz.prog 30 #[.pointer (some ⟨p, 0, none⟩), .string key] W fun e w' => e = .returned (.tuple #[v.val, .bool q]) ∧ Below W.heap.size W w') :
    Calls Tryz.prog 93 #[.pointer (some ⟨mb, 0, none⟩), .string key] w fun e w' => e = .returned (if q = true then v.val else z0.val) ∧ Below w.heap.size w w' := by
  have hb1 : Below w.heap.size w (w.alloc (vo 0 0 emp)) := below1 w _
  have hb2 : Below w.heap.size w ((w.alloc (vo 0 0 emp)).alloc (vo 0 0 emp)) := below_on hb1 (below1 _ _)
  have h1 := h.below hb1
  have h2 := h.below hb2
  have hl1 := h1.lookG key
  rw [hn] at hl1
  obtain ⟨vk, vi, vt⟩ := v
  replace hl1 : (Instr.lookup 74 (.map (some M)) (.string key) true).run Tryz.prog (w.alloc (vo 0 0 emp)) = .ok (.tuple #[vl 0 0 emp, .bool false]) (w.alloc (vo 0 0 emp)) := hl1
  obtain ⟨a0, -, -, -, a4, -⟩ := h1.m.cells
  obtain ⟨e0, -, -, -, e4, -⟩ := h2.m.cells
  rw [hv] at a0 e0
  rw [h.wv] at a4 e4
  have hml := h.m.lt
  have HG := hid (show Calls Tryz.prog 30 #[.pointer (some ⟨p, 0, none⟩), .string key] ((w.alloc (vo 0 0 emp)).alloc (vo 0 0 emp)) fun e w' => e = .returned (.tuple #[vl vk vi vt, .bool q]) ∧ Below w.heap.size w w' ∧ w'.heap[w.heap.size]? = some (vo 0 0 emp) from by
    refine (hg _ hb2).mono ?_
    rintro e w' ⟨rfl, hb⟩
    exact ⟨rfl, below_on hb2 hb, blk_of hb (two1 w _ _) (by simp; omega)⟩)
  clear h h1 h2 hv hn hg hb1 hb2
  cases q
  · simp only [Bool.false_eq_true, if_false]
    go_enter Tryz.func93, Tryz.ntmps93
    go_wp2_with (first
      | (go_at_call 30
         refine HG.out.mono ?_
         rintro e w3 ⟨rfl, hb3, hr3⟩
         have hw3 := hp_lt hr3
         obtain ⟨k0, k1, k2, k3⟩ := vfacts hr3
         have HB := hid (And.intro hb3 hr3)
         clear hb3 hr3))
    refine bodyPost_ret (ret_agg Tryz.results93 rfl (hp_alloc (set3 HB.out.2 _ _ _) _)) rfl ?_
    exact ⟨rfl, ((((HB.out.1.setCell (p := ⟨w.heap.size, 0, none⟩) (Nat.le_refl _) _).setCell (p := ⟨w.heap.size, 1, none⟩) (Nat.le_refl _) _).setCell (p := ⟨w.heap.size, 2, none⟩) (Nat.le_refl _) _).alloc (by have := HB.out.1.size; simp; omega) _)⟩
  · simp only [if_true]
    go_enter Tryz.func93, Tryz.ntmps93
    go_wp2_with (first
      | (go_at_call 30
         refine HG.out.mono ?_
         rintro e w3 ⟨rfl, hb3, hr3⟩
         have hw3 := hp_lt hr3
         obtain ⟨k0, k1, k2, k3⟩ := vfacts hr3
         have HB := hid (And.intro hb3 hr3)
         clear hb3 hr3))
    refine bodyPost_ret (ret_agg Tryz.results93 rfl (hp_alloc (set3 HB.out.2 _ _ _) _)) rfl ?_
    exact ⟨rfl, ((((HB.out.1.setCell (p := ⟨w.heap.size, 0, none⟩) (Nat.le_refl _) _).setCell (p := ⟨w.heap.size, 1, none⟩) (Nat.le_refl _) _).setCell (p := ⟨w.heap.size, 2, none⟩) (Nat.le_refl _) _).alloc (by have := HB.out.1.size; simp; omega) _)⟩
theorem seen_any (key : ByteArray) (p : Nat) (L : KV) (h : MX w B mb s td lk M (kvV l)) (hv : s.vw = .iface 42 (.pointer (some ⟨p, 0, none⟩))) (hV : VL w p L) :
    Calls Tryz.prog 93 #[.pointer (some ⟨mb, 0, none⟩), .string key] w fun e w' => e = .returned (seenF L l key).val ∧ Below w.heap.size w w' := by
  unfold seenF
  cases hq : lkp key l with
  | some v => exact seen_own key v h hq
  | none =>
    refine (seen_view key p _ _ h hv hq (fun W hb => vget W p L key (hV.below hb))).mono ?_
    rintro e w1 ⟨rfl, hb⟩
    refine ⟨?_, hb⟩
    cases lkp key L <;> rfl
set_option maxHeartbeats 1600000 in
theorem viewAb_any (text : ByteArray) (p : Nat) (L : KV) (h : MX w B mb s td lk M (kvV l)) (hv : s.vw = .iface 42 (.pointer (some ⟨p, 0, none⟩))) (hV : VL w p L) (ht : text.size ≤ 281474976710000) :
    Calls Tryz.prog 130 #[.pointer (some ⟨mb, 0, none⟩), .string text] w fun e w' => e = .returned (.string (((nxt L text).map Prod.fst).getD emp)) ∧ Below w.heap.size w w' := by
  have HN := hid (vnext w p L text hV ht)
  obtain ⟨a0, -, -, -, -, -⟩ := h.m.cells
  rw [hv] at a0
  cases hq : nxt L text with
  | none =>
    rw [hq] at HN
    clear h hv hV ht hq
    simp only [Option.map_none, Option.getD_none, Option.isSome_none] at HN ⊢
    go_enter Tryz.func130, Tryz.ntmps130
    go_wp2_with (
      go_at_call 29
      refine HN.out.mono ?_
      rintro e w1 ⟨rfl, hb1⟩
      have HB := hid hb1
      clear hb1)
    go_ret
    exact ⟨rfl, HB.out⟩
  | some x =>
    rw [hq] at HN
    have hk : kl text x.1 = true := List.find?_some (p := fun y : ByteArray × Vd => kl text y.1) (l := L) hq
    obtain ⟨k, vv⟩ := x
    have hk2 : (Op.bytesLess k.toList text.toList || (k.toList == text.toList)) = false := by rw [V.leq_eq]; dsimp only at hk; rw [hk]; rfl
    clear h hv hV ht hq hk
    simp only [Option.map_some, Option.getD_some, Option.isSome_some] at HN ⊢
    go_enter Tryz.func130, Tryz.ntmps130
    go_wp2_with (
      go_at_call 29
      refine HN.out.mono ?_
      rintro e w1 ⟨rfl, hb1⟩
      have HB := hid hb1
      clear hb1)
    go_ret
    exact ⟨rfl, HB.out⟩
end
end Go.Proofs.YthcoigbkdbkojabGreat
