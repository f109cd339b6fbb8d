import Derived.Test.YthcoigbkdbkojabGreatK17
set_option maxRecDepth 100000
namespace Go.Proofs.YthcoigbkdbkojabGreat
open Go.RowKit Go.MapKept
open V (hp_new hp_lt hp_below hp_alloc kl)
def rckP (a b : Bool) (v : Int) : Vd × Int := if (a && b) = true then (if inR v = true then (⟨1, v, emp⟩, 0) else (z0, 15)) else (z0, 14)
theorem rckT_P (a b : Bool) (v : Int) : rckT a b v = .tuple #[(rckP a b v).1.val, .int .i64 (rckP a b v).2] := by
  unfold rckT rckP rckV
  split
  · split <;> rfl
  · rfl
theorem rckP_er (a b : Bool) (v : Int) : (rckP a b v).2 = 0 ∨ isErr (rckP a b v).2 := by
  unfold rckP
  split
  · split
    · exact .inl rfl
    · exact .inr (.inr (.inl rfl))
  · exact .inr (.inl rfl)
theorem rckP_in (a b : Bool) (v : Int) : inR (rckP a b v).1.i = true := by
  unfold rckP
  split
  · split
    · assumption
    · rfl
  · rfl
def sumF (L l : KV) (a : Vd) (k : ByteArray) : Vd × Int := rckP (isI a.k a.t) (isI (seenF L l k).k (seenF L l k).t) (a.i + (seenF L l k).i)
def SumS (tb m2 mb : Nat) (a : Vd) (W : World) : Prop := W.heap[tb]? = some (vo a.k a.i a.t) ∧ W.heap[m2]? = some (.cells #[.pointer (some ⟨mb, 0, none⟩)] 73 (0, 0)) ∧ inR a.i = true
set_option maxHeartbeats 3200000 in
theorem sum1_any (tb m2 mb : Nat) (k : ByteArray) (a v : Vd) (w : World) (h : SumS tb m2 mb a w) (hv : inR v.i = true)
    (hse : ∀ W, Below w.heap.size w W → Calls Tryz.prog 93 #[.pointer (some ⟨mb, 0, none⟩), .string k] W fun e w' => e = .returned v.val ∧ Below W.heap.size W w') :
    Calls Tryz.prog 102 #[.string k, .pointer (some ⟨tb, 0, none⟩), .pointer (some ⟨m2, 0, none⟩)] w fun e w' => e = .returned (.int .i64 (rckP (isI a.k a.t) (isI v.k v.t) (a.i + v.i)).2) ∧ SumS tb m2 mb (rckP (isI a.k a.t) (isI v.k v.t) (a.i + v.i)).1 w' ∧ Kept (fun j => j = tb) w w' := by
  obtain ⟨h1, h2, h3⟩ := h
  have hin := rckP_in (isI a.k a.t) (isI v.k v.t) (a.i + v.i)
  have had := fun W => add_any a.k a.i a.t v.k v.i v.t h3 hv W
  rw [rckT_P] at had
  generalize rckP (isI a.k a.t) (isI v.k v.t) (a.i + v.i) = R at *
  obtain ⟨⟨rk, ri, rt⟩, er⟩ := R
  obtain ⟨ak, ai, at'⟩ := a
  obtain ⟨vk, vi, vt⟩ := v
  have HAD := hid (show ∀ W, Calls Tryz.prog 95 #[vl ak ai at', vl vk vi vt] W fun e w' => e = .returned (.tuple #[vl rk ri rt, .int .i64 er]) ∧ Below W.heap.size W w' from had)
  have HSE := hid (show ∀ W, Below w.heap.size w W → Calls Tryz.prog 93 #[.pointer (some ⟨mb, 0, none⟩), .string k] W fun e w' => e = .returned (vl vk vi vt) ∧ Below W.heap.size W w' from hse)
  obtain ⟨c0, c1, c2⟩ := V.cells3 h1
  have d0 := V.cells1 h2
  have HS := hid (show ∀ W, Below w.heap.size w W → W.cell? ⟨tb, 0, none⟩ = some (.int .i64 ak) ∧ W.cell? ⟨tb, 1, none⟩ = some (.int .i64 ai) ∧ W.cell? ⟨tb, 2, none⟩ = some (.string at') ∧ W.cell? ⟨m2, 0, none⟩ = some (.pointer (some ⟨mb, 0, none⟩)) from fun W hb => ⟨(hb.cell (World.block_lt_of_cell? _ _ c0)).trans c0, (hb.cell (World.block_lt_of_cell? _ _ c1)).trans c1, (hb.cell (World.block_lt_of_cell? _ _ c2)).trans c2, (hb.cell (World.block_lt_of_cell? _ _ d0)).trans d0⟩)
  have hne : tb ≠ m2 := by rintro rfl; rw [h1] at h2; cases h2
  have l1 := hp_lt h1
  have l2 := hp_lt h2
  have H := hid (And.intro h1 (And.intro h2 hin))
  clear h1 h2 h3 hv hse had hin
  go_enter Tryz.func102, Tryz.ntmps102
  go_wp2_with fail
  go_region_law
    (first
      | (go_simp; go_wp2_with (first
          | (go_at_call 93
             refine (HSE.out _ ((Below.refl _ _).drew)).mono ?_
             rintro e w1 ⟨rfl, hb1'⟩
             have H1 := hid (show Below w.heap.size w w1 from ⟨hb1'.os, hb1'.tape, hb1'.output, hb1'.size, hb1'.block⟩)
             obtain ⟨k0, k1, k2, k3⟩ := HS.out w1 H1.out
             clear hb1' HSE)
          | (go_at_call 95
             refine (HAD.out _).mono ?_
             rintro e w2 ⟨rfl, hb2⟩
             have H2 := hid (below_on H1.out hb2)
             obtain ⟨k4, k5, k6, k7⟩ := HS.out w2 H2.out
             have hf2 : ∀ o, w2.frozen? ⟨tb, o, none⟩ = false := fun o => free_of_block (hp_below H.out.1 H2.out l1)
             have hl2 : tb < w2.heap.size := hp_lt (hp_below H.out.1 H2.out l1)
             clear hb2))))
  all_goals
    go_wp2
    go_ret
    have y1 := hp_below H.out.1 H2.out l1
    have y2 := hp_below H.out.2.1 H2.out l2
    refine ⟨rfl, ⟨set3 y1 _ _ _, ?_, H.out.2.2⟩, ?_⟩
    · exact V.hp_set (V.hp_set (V.hp_set y2 (Ne.symm hne) _ (p := ⟨tb, 0, none⟩)) (Ne.symm hne) _ (p := ⟨tb, 1, none⟩)) (Ne.symm hne) _ (p := ⟨tb, 2, none⟩)
    · exact ((((Kept.ofBelow H2.out).mono (S' := fun j => j = tb) (fun _ _ e => e.elim)).setCell (p := ⟨tb, 0, none⟩) (fun _ => rfl) _).setCell (p := ⟨tb, 1, none⟩) (fun _ => rfl) _).setCell (p := ⟨tb, 2, none⟩) (fun _ => rfl) _
def cntF (a : Vd) (_k : ByteArray) : Vd × Int := (⟨a.k, wrap64 (a.i + 1), a.t⟩, 0)
def CntS (tb : Nat) (a : Vd) (W : World) : Prop := W.heap[tb]? = some (vo a.k a.i a.t)
set_option maxHeartbeats 1600000 in
theorem cnt1_any (tb : Nat) (k : ByteArray) (a : Vd) (w : World) (h : CntS tb a w) :
    Calls Tryz.prog 103 #[.string k, .pointer (some ⟨tb, 0, none⟩)] w fun e w' => e = .returned (.int .i64 0) ∧ CntS tb (cntF a k).1 w' ∧ Kept (fun j => j = tb) w w' := by
  obtain ⟨ak, ai, at'⟩ := a
  unfold CntS cntF at *
  dsimp only at h ⊢
  obtain ⟨c0, c1, c2⟩ := V.cells3 h
  have hf : ∀ o, w.frozen? ⟨tb, o, none⟩ = false := fun o => free_of_block h
  have hl := hp_lt h
  have H := hid h
  clear h
  go_enter Tryz.func103, Tryz.ntmps103
  go_wp2
  go_ret
  have y := V.set_block (i := 1) H.out (.int .i64 (wrap64 (ai + 1)))
  exact ⟨rfl, y, (Kept.refl (fun j => j = tb) w).setCell (p := ⟨tb, 1, none⟩) (fun _ => rfl) _⟩
end Go.Proofs.YthcoigbkdbkojabGreat
namespace Go.Proofs.YthcoigbkdbkojabGreat
open Go.RowKit Go.MapKept
open V (hp_new hp_lt hp_below hp_alloc kl)
open Classical in
noncomputable def abv (L l : KV) (to text : ByteArray) : ByteArray := if h : ∃ r, AbP L l text to r then Classical.choose h else emp
theorem abv_eq {L l : KV} {to text r : ByteArray} (h : AbP L l text to r) : abv L l to text = r := by
  unfold abv
  rw [dif_pos ⟨r, h⟩]
  exact AbP.unique (Classical.choose_spec (⟨r, h⟩ : ∃ r, AbP L l text to r)) h
theorem vis_key {L l : KV} (hL : VOk L) (hK : KOk l) {k : ByteArray} (h : vis L l k) : isKeyB k = true ∧ k ∈ L.map Prod.fst ++ l.map Prod.fst := by
  rcases vis_cases h with ⟨v, h1, -⟩ | ⟨-, v, h1⟩
  · have := lkp_mem h1
    exact ⟨hK _ this, List.mem_append.2 (.inr (List.mem_map.2 ⟨_, this, rfl⟩))⟩
  · have := lkp_mem h1
    exact ⟨hL.key _ this, List.mem_append.2 (.inl (List.mem_map.2 ⟨_, this, rfl⟩))⟩
theorem abv_cases (L l : KV) (to text : ByteArray) : abv L l to text = emp ∨ (inB text to (abv L l to text) ∧ vis L l (abv L l to text)) := by
  by_cases h : ∃ r, AbP L l text to r
  · obtain ⟨r, hr⟩ := h
    rw [abv_eq hr]
    exact hr.1
  · unfold abv
    rw [dif_neg h]
    exact .inl rfl
theorem abv_key {L l : KV} (hL : VOk L) (hK : KOk l) (to text : ByteArray) : abv L l to text = emp ∨ isKeyB (abv L l to text) = true := by
  rcases abv_cases L l to text with h | ⟨-, h⟩
  · exact .inl h
  · exact .inr (vis_key hL hK h).1
def muK (L l : KV) (k : ByteArray) : Nat := if k = emp then 0 else 1 + (L.map Prod.fst ++ l.map Prod.fst).countP (fun y => kl k y)
theorem muK_0 (L l : KV) (k : ByteArray) (h : k ≠ emp) : muK L l emp < muK L l k := by
  unfold muK
  rw [if_pos rfl, if_neg h]
  omega
theorem muK_less {L l : KV} (hL : VOk L) (hK : KOk l) (to k : ByteArray) (h : k ≠ emp) (h2 : abv L l to k ≠ emp) : muK L l (abv L l to k) < muK L l k := by
  obtain ⟨⟨h3, -⟩, h4⟩ := (abv_cases L l to k).resolve_left h2
  unfold muK
  rw [if_neg h2, if_neg h]
  have := V.count_less (p := fun y => kl (abv L l to k) y) (q := fun y => kl k y) (l := L.map Prod.fst ++ l.map Prod.fst) (x := abv L l to k) (fun y _ hy => V.kl_trans h3 hy) (vis_key hL hK h4).2 h3 (V.kl_irrefl _)
  omega
structure MV (w : World) (B mb : Nat) (s : Ms) (td : List Vd) (lk : List (ByteArray × ByteArray)) (M : Nat) (l : KV) (p : Nat) (L : KV) : Prop where
  m : MX w B mb s td lk M (kvV l)
  vw : s.vw = .iface 42 (.pointer (some ⟨p, 0, none⟩))
  vl : ∀ W, Below B w W → VL W p L
  ok : VOk L
  kk : KOk l
  ir : ∀ k, inR (seenF L l k).i = true
section
variable {w w' : World} {B mb M : Nat} {s : Ms} {td : List Vd} {lk : List (ByteArray × ByteArray)} {l : KV} {p : Nat} {L : KV}
theorem MV.below (h : MV w B mb s td lk M l p L) (hb : Below w.heap.size w w') : MV w' B mb s td lk M l p L := ⟨h.m.below hb, h.vw, fun W hW => h.vl W ((hb.mono h.m.bB).trans hW), h.ok, h.kk, h.ir⟩
theorem MV.above (h : MV w B mb s td lk M l p L) (text to : ByteArray) (ht : text.size ≤ 1000) :
    Calls Tryz.prog 105 #[.pointer (some ⟨mb, 0, none⟩), .string text, .string to] w fun e w' => e = .returned (.string (abv L l to text)) ∧ Below w.heap.size w w' := by
  refine (above_any text to p L h.m h.vw (h.vl w (Below.refl _ _)) h.ok h.kk ht).mono ?_
  rintro e w' ⟨r, rfl, hr, hb⟩
  exact ⟨by rw [abv_eq hr], hb⟩
theorem MV.seen (h : MV w B mb s td lk M l p L) (key : ByteArray) :
    Calls Tryz.prog 93 #[.pointer (some ⟨mb, 0, none⟩), .string key] w fun e w' => e = .returned (seenF L l key).val ∧ Below w.heap.size w w' := seen_any key p L h.m h.vw (h.vl w (Below.refl _ _))
def Gup (B : Nat) (w : World) (mb : Nat) (s : Ms) (td : List Vd) (lk' : List (ByteArray × ByteArray)) (M : Nat) (l : KV) (st : Int) (e : Ending) (w' : World) : Prop := e = gu st ∧ (∃ v', MX w' B mb { s with lv := v' } td lk' M (kvV l)) ∧ Kept (Sx s mb M) w w'
def Dup (B : Nat) (w : World) (mb : Nat) (s : Ms) (s' : Value → Ms) (td : List Vd) (lk' : List (ByteArray × ByteArray)) (M : Nat) (l : KV) (e : Ending) (w' : World) : Prop := e = .returned (.tuple #[]) ∧ (∃ v', MX w' B mb (s' v') td lk' M (kvV l)) ∧ Kept (Sx s mb M) w w'
theorem sx_big {T : Nat → Prop} {wx w2 : World} (hb : Below w.heap.size w wx) (hk : Kept (fun k => Sx s mb M k ∨ T k) wx w2) (ht : ∀ j, T j → w.heap.size ≤ j) : Kept (Sx s mb M) w w2 :=
  ((Kept.ofBelow hb).mono (S' := Sx s mb M) (fun _ _ e => e.elim)).trans hk (fun j hj e => e.elim (fun e => e) (fun e => by have := ht j e; omega))
noncomputable def sumR (L l : KV) (x : Ins) (rb rc : Vd) : Vd × Int × ByteArray := thr (abv L l (bKey rc)) (sumF L l) (bKey rc) x.n.toNat (fkey (bKey rb) (seenF L l (bKey rb)) (abv L l (bKey rc))) ⟨1, 0, emp⟩
noncomputable def countR (L l : KV) (x : Ins) (rb rc : Vd) : Vd × Int × ByteArray := thr (abv L l (bKey rc)) cntF (bKey rc) x.n.toNat (fkey (bKey rb) (seenF L l (bKey rb)) (abv L l (bKey rc))) ⟨1, 0, emp⟩
theorem sumEach (h : MV w B mb s td lk M l p L) {wx : World} {tb m2 : Nat} (_hb : Below w.heap.size w wx) (h1 : w.heap.size ≤ tb ∧ tb < wx.heap.size) (h2 : w.heap.size ≤ m2 ∧ m2 < wx.heap.size) :
    Each w wx 102 #[.pointer (some ⟨tb, 0, none⟩), .pointer (some ⟨m2, 0, none⟩)] (sumF L l) (SumS tb m2 mb) (fun j => j = tb) := by
  refine ⟨fun j e => by rw [e]; exact h1, ?_, ?_, ?_, fun a k => rckP_er _ _ _⟩
  · rintro a W W' S ⟨q1, q2, q3⟩ hk hS
    exact ⟨hpk q1 hk (fun e => by have := hS _ e; omega), hpk q2 hk (fun e => by have := hS _ e; omega), q3⟩
  · rintro a W W' S ⟨q1, q2, q3⟩ hk hS
    exact ⟨hpk q1 hk (fun e => by have := hS _ e; omega), hpk q2 hk (fun e => by have := hS _ e; omega), q3⟩
  · intro a W k hs hbW _
    exact sum1_any tb m2 mb k a (seenF L l k) W hs (h.ir k) (fun W2 hb2 => ((h.below hbW).below hb2).seen k)
set_option maxHeartbeats 3200000 in
theorem opsum_any (x : Ins) (h : MV w B mb s td lk M l p L) (a0 : 0 ≤ x.a) (a1 : x.a < 16) (b0 : 0 ≤ x.b) (b1 : x.b < 16) (c0 : 0 ≤ x.c) (c1 : x.c < 16) (n0 : 1 ≤ x.n) (n1 : x.n ≤ 64) (hB : bErr (s.rg x.b) = 0) (hC : bErr (s.rg x.c) = 0) (hgo : bKey (s.rg x.c) = emp ∨ kl (bKey (s.rg x.c)) (bKey (s.rg x.b)) = false) (hl : lk.length ≤ 999) :
    Calls Tryz.prog 74 #[.pointer (some ⟨mb, 0, none⟩), x.val] w
      (if (sumR L l x (s.rg x.b) (s.rg x.c)).2.1 = 0 then Dup B w mb s (fun v' => ({ s with lv := v' } : Ms).set x.a (sumR L l x (s.rg x.b) (s.rg x.c)).1) td (lk ++ [(bKey (s.rg x.b), (sumR L l x (s.rg x.b) (s.rg x.c)).2.2)]) M l
       else Gup B w mb s td (lk ++ [(bKey (s.rg x.b), (sumR L l x (s.rg x.b) (s.rg x.c)).2.2)]) M l (stE (sumR L l x (s.rg x.b) (s.rg x.c)).2.1)) := by
  have hml := h.m.m.lt
  obtain ⟨z1, z2, z3, hb3⟩ := three w (.cells #[.pointer (some ⟨mb, 0, none⟩)] 73) (io x.op x.a x.b x.c x.n x.k x.i x.t) (vo 1 0 emp)
  have hsz : (((w.alloc (.cells #[.pointer (some ⟨mb, 0, none⟩)] 73)).alloc (io x.op x.a x.b x.c x.n x.k x.i x.t)).alloc (vo 1 0 emp)).heap.size = w.heap.size + 3 := by simp
  have HTH := hid (through132 x (w.heap.size + 1 + 1) w.heap.size (sumF L l) (SumS (w.heap.size + 1 + 1) w.heap.size mb) (fun j => j = w.heap.size + 1 + 1) ⟨1, 0, emp⟩ (abv L l (bKey (s.rg x.c))) (seenF L l (bKey (s.rg x.b))) h.m hb3 b0 b1 c0 c1 n0 n1 hB hC hgo hl (sumEach h hb3 (by omega) (by omega)) ⟨z3, z1, rfl⟩ (fun W hb text ht => (h.below hb).above text _ ht) (fun W hb => (h.below hb).seen _) (muK L l) (fun k hk hk2 => muK_less h.ok h.kk _ k hk hk2) (fun k hk => muK_0 L l k hk) (fun t => abv_key h.ok h.kk _ t))
  have HSM := hid (show sumR L l x (s.rg x.b) (s.rg x.c) = _ from rfl)
  generalize hR : sumR L l x (s.rg x.b) (s.rg x.c) = R at *
  have hR2 : thr (abv L l (bKey (s.rg x.c))) (sumF L l) (bKey (s.rg x.c)) x.n.toNat (fkey (bKey (s.rg x.b)) (seenF L l (bKey (s.rg x.b))) (abv L l (bKey (s.rg x.c)))) ⟨1, 0, emp⟩ = R := hR
  rw [hR2] at HTH
  obtain ⟨⟨rk, ri, rt⟩, er, last⟩ := R
  dsimp only at HTH ⊢
  clear hR hR2 HSM n0 n1 hB hC hgo hl b0 b1 c0 c1
  have HB3 := hid (And.intro hb3 (And.intro z2 z1))
  generalize bKey (s.rg x.b) = frm at *
  obtain ⟨op, a, b, c, n, vk, vi, vt⟩ := x
  dsimp only at a0 a1 HTH HB3 ⊢
  obtain ⟨a, rfl⟩ := Int.eq_ofNat_of_zero_le a0
  have ha2 : a < 16 := by omega
  have hmf : ∀ (fn : Fn) (first cap : Array Value) (w : World), (Instr.makeFunc fn first cap).run Tryz.prog w = .ok (.func fn first cap) w := fun _ _ _ _ => rfl
  have HM := hid h
  clear h z1 z2 z3 hb3 hsz
  unfold Ins.val at HTH ⊢
  dsimp only at HTH ⊢
  by_cases he : er = 0
  · subst he
    simp only [if_true] at HTH ⊢
    go_enter Tryz.func74, Tryz.ntmps74
    go_wp2_with (
      go_at_call 101
      refine HTH.out.mono ?_
      rintro e w1 ⟨rfl, hs1, ⟨v', hx1⟩, hk1⟩
      have hk2 := sx_big (T := fun j => j = w.heap.size + 1 + 1) HB3.out.1 hk1 (fun j e => by omega)
      have ns : ∀ j, w.heap.size ≤ j → ¬ Sx s mb M j := fun j hj e => by
        rcases e with e | e | e | e
        · omega
        · have h1 := HM.out.m.mg; obtain ⟨es, cc, g⟩ := h1; have := hp_lt g.blk; omega
        · have := (HM.out.m.td.lt j e).2; omega
        · have := (HM.out.m.lk.lt j e).2; omega
      have y2 := hpk HB3.out.2.1 hk1 (fun e => e.elim (ns _ (by omega)) (fun e => by omega))
      obtain ⟨q0, q1, q2⟩ := V.cells3 hs1.1
      have q3 := V.cells1 hs1.2.1
      obtain ⟨-, i1, -⟩ := cells8 y2
      obtain ⟨r0, r1, r2⟩ := hx1.m.reg a a0 a1
      rw [Int.toNat_natCast] at r0 r1 r2
      have hfz := hx1.m.free
      have hml1 := hx1.m.lt
      have lt1 := hp_lt hs1.1
      have lt2 := hp_lt hs1.2.1
      have lt3 := hp_lt y2
      have H1 := hid (And.intro hx1 hk2)
      clear hx1 hk1 hk2 ns hs1 y2)
    go_region
    all_goals
      go_end0
      obtain ⟨W, rfl, d2, d3⟩ := did_set1 H1.out.1 a ha2 ⟨rk, ri, rt⟩
      exact ⟨rfl, ⟨v', d2.below ((Below.refl _ _).drew)⟩, (H1.out.2.trans d3 (fun _ _ e => .inl e)).drew⟩
  · rw [if_neg he] at HTH ⊢
    go_enter Tryz.func74, Tryz.ntmps74
    go_wp2_with (
      go_at_call 101
      refine HTH.out.mono ?_
      rintro e w1 ⟨rfl, hs1, hx1, hk1⟩
      have hk2 := sx_big (T := fun j => j = w.heap.size + 1 + 1) HB3.out.1 hk1 (fun j e => by omega)
      have H1 := hid (And.intro hx1 hk2)
      clear hx1 hk1 hk2 hs1)
    exact ⟨rfl, rfl, H1.out.1, H1.out.2⟩
theorem cntEach {wx : World} {tb : Nat} (h1 : w.heap.size ≤ tb ∧ tb < wx.heap.size) :
    Each w wx 103 #[.pointer (some ⟨tb, 0, none⟩)] cntF (CntS tb) (fun j => j = tb) := by
  refine ⟨fun j e => by rw [e]; exact h1, ?_, ?_, ?_, fun a k => .inl rfl⟩
  · rintro a W W' S q1 hk hS
    exact hpk q1 hk (fun e => by have := hS _ e; omega)
  · rintro a W W' S q1 hk hS
    exact hpk q1 hk (fun e => by have := hS _ e; omega)
  · intro a W k hs _ _
    exact cnt1_any tb k a W hs
set_option maxHeartbeats 3200000 in
theorem opcount_any (x : Ins) (h : MV w B mb s td lk M l p L) (a0 : 0 ≤ x.a) (a1 : x.a < 16) (b0 : 0 ≤ x.b) (b1 : x.b < 16) (c0 : 0 ≤ x.c) (c1 : x.c < 16) (n0 : 1 ≤ x.n) (n1 : x.n ≤ 64) (hB : bErr (s.rg x.b) = 0) (hC : bErr (s.rg x.c) = 0) (hgo : bKey (s.rg x.c) = emp ∨ kl (bKey (s.rg x.c)) (bKey (s.rg x.b)) = false) (hl : lk.length ≤ 999) :
    Calls Tryz.prog 75 #[.pointer (some ⟨mb, 0, none⟩), x.val] w
      (if (countR L l x (s.rg x.b) (s.rg x.c)).2.1 = 0 then Dup B w mb s (fun v' => ({ s with lv := v' } : Ms).set x.a (countR L l x (s.rg x.b) (s.rg x.c)).1) td (lk ++ [(bKey (s.rg x.b), (countR L l x (s.rg x.b) (s.rg x.c)).2.2)]) M l
       else Gup B w mb s td (lk ++ [(bKey (s.rg x.b), (countR L l x (s.rg x.b) (s.rg x.c)).2.2)]) M l (stE (countR L l x (s.rg x.b) (s.rg x.c)).2.1)) := by
  have hml := h.m.m.lt
  have z2 := two1 w (io x.op x.a x.b x.c x.n x.k x.i x.t) (vo 1 0 emp)
  have z3 := two2 w (io x.op x.a x.b x.c x.n x.k x.i x.t) (vo 1 0 emp)
  have hb3 := below2 w (io x.op x.a x.b x.c x.n x.k x.i x.t) (vo 1 0 emp)
  have hsz : ((w.alloc (io x.op x.a x.b x.c x.n x.k x.i x.t)).alloc (vo 1 0 emp)).heap.size = w.heap.size + 2 := by simp
  have HTH := hid (through133 x (w.heap.size + 1) cntF (CntS (w.heap.size + 1)) (fun j => j = w.heap.size + 1) ⟨1, 0, emp⟩ (abv L l (bKey (s.rg x.c))) (seenF L l (bKey (s.rg x.b))) h.m hb3 b0 b1 c0 c1 n0 n1 hB hC hgo hl (cntEach (by omega)) z3 (fun W hb text ht => (h.below hb).above text _ ht) (fun W hb => (h.below hb).seen _) (muK L l) (fun k hk hk2 => muK_less h.ok h.kk _ k hk hk2) (fun k hk => muK_0 L l k hk) (fun t => abv_key h.ok h.kk _ t))
  have HSM := hid (show countR L l x (s.rg x.b) (s.rg x.c) = _ from rfl)
  generalize hR : countR L l x (s.rg x.b) (s.rg x.c) = R at *
  have hR2 : thr (abv L l (bKey (s.rg x.c))) cntF (bKey (s.rg x.c)) x.n.toNat (fkey (bKey (s.rg x.b)) (seenF L l (bKey (s.rg x.b))) (abv L l (bKey (s.rg x.c)))) ⟨1, 0, emp⟩ = R := hR
  rw [hR2] at HTH
  obtain ⟨⟨rk, ri, rt⟩, er, last⟩ := R
  dsimp only at HTH ⊢
  clear hR hR2 HSM n0 n1 hB hC hgo hl b0 b1 c0 c1
  have HB3 := hid (And.intro hb3 z2)
  generalize bKey (s.rg x.b) = frm at *
  obtain ⟨op, a, b, c, n, vk, vi, vt⟩ := x
  dsimp only at a0 a1 HTH HB3 ⊢
  obtain ⟨a, rfl⟩ := Int.eq_ofNat_of_zero_le a0
  have ha2 : a < 16 := by omega
  have hmf : ∀ (fn : Fn) (first cap : Array Value) (w : World), (Instr.makeFunc fn first cap).run Tryz.prog w = .ok (.func fn first cap) w := fun _ _ _ _ => rfl
  have HM := hid h
  clear h z2 z3 hb3 hsz
  unfold Ins.val at HTH ⊢
  dsimp only at HTH ⊢
  by_cases he : er = 0
  · subst he
    simp only [if_true] at HTH ⊢
    go_enter Tryz.func75, Tryz.ntmps75
    go_wp2_with (
      go_at_call 101
      refine HTH.out.mono ?_
      rintro e w1 ⟨rfl, hs1, ⟨v', hx1⟩, hk1⟩
      have hk2 := sx_big (T := fun j => j = w.heap.size + 1) HB3.out.1 hk1 (fun j e => by omega)
      have ns : ∀ j, w.heap.size ≤ j → ¬ Sx s mb M j := fun j hj e => by
        rcases e with e | e | e | e
        · omega
        · have h1 := HM.out.m.mg; obtain ⟨es, cc, g⟩ := h1; have := hp_lt g.blk; omega
        · have := (HM.out.m.td.lt j e).2; omega
        · have := (HM.out.m.lk.lt j e).2; omega
      have y2 := hpk HB3.out.2 hk1 (fun e => e.elim (ns _ (by omega)) (fun e => by omega))
      obtain ⟨q0, q1, q2⟩ := V.cells3 hs1
      obtain ⟨-, i1, -⟩ := cells8 y2
      obtain ⟨r0, r1, r2⟩ := hx1.m.reg a a0 a1
      rw [Int.toNat_natCast] at r0 r1 r2
      have hfz := hx1.m.free
      have hml1 := hx1.m.lt
      have lt1 := hp_lt hs1
      have lt3 := hp_lt y2
      have H1 := hid (And.intro hx1 hk2)
      clear hx1 hk1 hk2 ns hs1 y2)
    go_region
    all_goals
      go_end0
      obtain ⟨W, rfl, d2, d3⟩ := did_set1 H1.out.1 a ha2 ⟨rk, ri, rt⟩
      exact ⟨rfl, ⟨v', d2.below ((Below.refl _ _).drew)⟩, (H1.out.2.trans d3 (fun _ _ e => .inl e)).drew⟩
  · rw [if_neg he] at HTH ⊢
    go_enter Tryz.func75, Tryz.ntmps75
    go_wp2_with (
      go_at_call 101
      refine HTH.out.mono ?_
      rintro e w1 ⟨rfl, hs1, hx1, hk1⟩
      have hk2 := sx_big (T := fun j => j = w.heap.size + 1) HB3.out.1 hk1 (fun j e => by omega)
      have H1 := hid (And.intro hx1 hk2)
      clear hx1 hk1 hk2 hs1)
    exact ⟨rfl, rfl, H1.out.1, H1.out.2⟩
end
end Go.Proofs.YthcoigbkdbkojabGreat
namespace Go.Proofs.YthcoigbkdbkojabGreat
open Go.RowKit Go.MapKept
open V (hp_new hp_lt hp_below hp_alloc kl)
section
variable {w w' : World} {B mb M : Nat} {s : Ms} {td : List Vd} {lk : List (ByteArray × ByteArray)} {kv : List (ByteArray × Value)}
set_option maxHeartbeats 3200000 in
theorem thr_none (x : Ins) (ev : Value) (h : MX w B mb s td lk M kv) (b0 : 0 ≤ x.b) (b1 : x.b < 16) (c0 : 0 ≤ x.c) (c1 : x.c < 16) (hB : bErr (s.rg x.b) = 0) (hC : bErr (s.rg x.c) = 0) (h1 : bKey (s.rg x.c) ≠ emp) (h2 : kl (bKey (s.rg x.c)) (bKey (s.rg x.b)) = true) (hev : ev.oneCell' = true) :
    Calls Tryz.prog 101 #[.pointer (some ⟨mb, 0, none⟩), x.val, ev] w fun e w' => e = .returned (.tuple #[]) ∧ Below w.heap.size w w' := by
  obtain ⟨op, a, b, c, n, vk, vi, vt⟩ := x
  dsimp only at b0 b1 c0 c1 hB hC h1 h2 ⊢
  have hb2 : Below w.heap.size w ((w.alloc (io op a b c n vk vi vt)).alloc (.cells #[ev] 171)) := below2 w _ _
  have HBb := hid (fun W (hb : Below w.heap.size w W) => bd_ok b (h.below hb) b0 b1 hB)
  have HBc := hid (fun W (hb : Below w.heap.size w W) => bd_ok c (h.below hb) c0 c1 hC)
  generalize bKey (s.rg b) = frm at *
  generalize bKey (s.rg c) = to at *
  have e1 := V.emp_ne h1
  have e2 : Op.bytesLess to.toList frm.toList = true := h2
  obtain ⟨-, -, i2, i3, -⟩ := cells8 (two1 w (io op a b c n vk vi vt) (.cells #[ev] 171))
  have HS := hid (show ∀ W, Below ((w.alloc (io op a b c n vk vi vt)).alloc (.cells #[ev] 171)).heap.size ((w.alloc (io op a b c n vk vi vt)).alloc (.cells #[ev] 171)) W → W.cell? ⟨w.heap.size, 2, none⟩ = some (.int .i64 b) ∧ W.cell? ⟨w.heap.size, 3, none⟩ = some (.int .i64 c) from fun W hb => ⟨(hb.cell (World.block_lt_of_cell? _ _ i2)).trans i2, (hb.cell (World.block_lt_of_cell? _ _ i3)).trans i3⟩)
  have HB0 := hid hb2
  clear h hB hC h1 h2 hb2 i2 i3
  unfold Ins.val
  dsimp only
  go_enter Tryz.func101, Tryz.ntmps101
  go_wp2_with fail
  go_region_held3 (fun wx => wx.cell? ⟨w.heap.size, 2, none⟩ = some (.int .i64 b) ∧ wx.cell? ⟨w.heap.size, 3, none⟩ = some (.int .i64 c))
    (first | exact HS.out _ ((Below.refl _ _).drew) | exact HS.out _ H1.out | exact HS.out _ H2.out)
    (first
    | (go_at_call 104
       refine (HBb.out _ (HB0.out.drew)).mono ?_
       rintro e w1 ⟨rfl, hb1⟩
       have H1 := hid (show Below ((w.alloc (io op a b c n vk vi vt)).alloc (.cells #[ev] 171)).heap.size ((w.alloc (io op a b c n vk vi vt)).alloc (.cells #[ev] 171)) w1 from ⟨hb1.os, hb1.tape, hb1.output, hb1.size, hb1.block⟩)
       clear hb1 HBb)
    | (go_at_call 104
       refine (HBc.out _ (below_on HB0.out H1.out)).mono ?_
       rintro e w2 ⟨rfl, hb2⟩
       have H2 := hid (below_on H1.out hb2)
       clear hb2 HBc))
  go_wp2
  refine bodyPost_ret (results_none rfl _ _ _) rfl ?_
  exact ⟨rfl, below_on HB0.out H2.out⟩
set_option maxHeartbeats 3200000 in
theorem thr_nb (x : Ins) (ev : Value) (h : MX w B mb s td lk M kv) (b0 : 0 ≤ x.b) (b1 : x.b < 16) (hB : bErr (s.rg x.b) ≠ 0) (hev : ev.oneCell' = true) :
    Calls Tryz.prog 101 #[.pointer (some ⟨mb, 0, none⟩), x.val, ev] w fun e w' => e = gu (stE (bErr (s.rg x.b))) ∧ Below w.heap.size w w' := by
  obtain ⟨op, a, b, c, n, vk, vi, vt⟩ := x
  dsimp only at b0 b1 hB ⊢
  have hb2 : Below w.heap.size w ((w.alloc (io op a b c n vk vi vt)).alloc (.cells #[ev] 171)) := below2 w _ _
  have HBb := hid (fun W (hb : Below w.heap.size w W) => bd_no b (h.below hb) b0 b1 hB)
  generalize bErr (s.rg b) = er at *
  obtain ⟨-, -, i2, i3, -⟩ := cells8 (two1 w (io op a b c n vk vi vt) (.cells #[ev] 171))
  have HB0 := hid hb2
  clear h hB hb2
  unfold Ins.val
  dsimp only
  go_enter Tryz.func101, Tryz.ntmps101
  go_wp2_with fail
  go_region_dies
  all_goals
    refine (HBb.out _ (HB0.out.drew)).mono ?_
    rintro e w1 ⟨rfl, hb1⟩
    exact ⟨rfl, rfl, below_on HB0.out ⟨hb1.os, hb1.tape, hb1.output, hb1.size, hb1.block⟩⟩
set_option maxHeartbeats 3200000 in
theorem thr_nc (x : Ins) (ev : Value) (h : MX w B mb s td lk M kv) (b0 : 0 ≤ x.b) (b1 : x.b < 16) (c0 : 0 ≤ x.c) (c1 : x.c < 16) (hB : bErr (s.rg x.b) = 0) (hC : bErr (s.rg x.c) ≠ 0) (hev : ev.oneCell' = true) :
    Calls Tryz.prog 101 #[.pointer (some ⟨mb, 0, none⟩), x.val, ev] w fun e w' => e = gu (stE (bErr (s.rg x.c))) ∧ Below w.heap.size w w' := by
  obtain ⟨op, a, b, c, n, vk, vi, vt⟩ := x
  dsimp only at b0 b1 c0 c1 hB hC ⊢
  have hb2 : Below w.heap.size w ((w.alloc (io op a b c n vk vi vt)).alloc (.cells #[ev] 171)) := below2 w _ _
  have HBb := hid (fun W (hb : Below w.heap.size w W) => bd_ok b (h.below hb) b0 b1 hB)
  have HBc := hid (fun W (hb : Below w.heap.size w W) => bd_no c (h.below hb) c0 c1 hC)
  generalize bErr (s.rg c) = er at *
  generalize bKey (s.rg b) = frm at *
  obtain ⟨-, -, i2, i3, -⟩ := cells8 (two1 w (io op a b c n vk vi vt) (.cells #[ev] 171))
  have HS := hid (show ∀ W, Below ((w.alloc (io op a b c n vk vi vt)).alloc (.cells #[ev] 171)).heap.size ((w.alloc (io op a b c n vk vi vt)).alloc (.cells #[ev] 171)) W → W.cell? ⟨w.heap.size, 2, none⟩ = some (.int .i64 b) ∧ W.cell? ⟨w.heap.size, 3, none⟩ = some (.int .i64 c) from fun W hb => ⟨(hb.cell (World.block_lt_of_cell? _ _ i2)).trans i2, (hb.cell (World.block_lt_of_cell? _ _ i3)).trans i3⟩)
  have HB0 := hid hb2
  clear h hB hC hb2
  unfold Ins.val
  dsimp only
  go_enter Tryz.func101, Tryz.ntmps101
  go_wp2_with fail
  go_region_dies
  all_goals
    refine (HBb.out _ (HB0.out.drew)).mono ?_
    rintro e w1 ⟨rfl, hb1⟩
    have H1 := hid (show Below ((w.alloc (io op a b c n vk vi vt)).alloc (.cells #[ev] 171)).heap.size ((w.alloc (io op a b c n vk vi vt)).alloc (.cells #[ev] 171)) w1 from ⟨hb1.os, hb1.tape, hb1.output, hb1.size, hb1.block⟩)
    obtain ⟨j2, j3⟩ := HS.out w1 H1.out
    clear hb1 HBb
    rename_i K hK
    refine hK _ _ ?_
    clear hK K
    try (refine wpAny_ready (rs := [6]) (by decide +kernel) (by simp) ?_; refine AllReady.cons rfl (fun K hK => ?_) AllReady.nil; go_simp; refine hK _ _ ?_; clear hK K)
    refine wpAny_ready (rs := [7]) (by decide +kernel) (by simp) ?_
    refine AllReady.cons rfl (fun K hK => ?_) AllReady.nil
    go_simp
    refine (HBc.out _ (below_on HB0.out H1.out)).mono ?_
    rintro e w2 ⟨rfl, hb2⟩
    exact ⟨rfl, rfl, below_on HB0.out (below_on H1.out hb2)⟩
end
end Go.Proofs.YthcoigbkdbkojabGreat
