import Derived.Test.YthcoigbkdbkojabGreatK22
set_option maxRecDepth 100000
namespace Go.Proofs.YthcoigbkdbkojabGreat
open Go.RowKit Go.MapKept
open V (hp_new hp_lt hp_below hp_alloc kl)
structure Qm where
  rg : Int → Vd
  td : List Vd
  lk : List (ByteArray × ByteArray)
  l : KV
def Qm.mc (q : Qm) (vw av : Value) : Mc := ⟨vw, av, q.rg, q.td, q.lk, kvV q.l⟩
def Qm.put (q : Qm) (r : Int) (v : Vd) : Qm := { q with rg := fun i => if i = r then v else q.rg i }
def Qm.look (q : Qm) (f t : ByteArray) : Qm := { q with lk := q.lk ++ [(f, t)] }
abbrev Qr := Qm × Int × Int
def qRck (q : Qm) (pc a : Int) (R : Vd × Int) : Qr := if R.2 = 0 then (q.put a R.1, pc, 0) else (q, pc, stE R.2)
def qHolds (q : Qm) (x : Ins) : Bool := holdsB x.n (cmpV (q.rg x.b).k (q.rg x.b).i (q.rg x.b).t (q.rg x.c).k (q.rg x.c).i (q.rg x.c).t)
def qNone (q : Qm) (x : Ins) : Prop := bKey (q.rg x.c) ≠ emp ∧ kl (bKey (q.rg x.c)) (bKey (q.rg x.b)) = true
instance (q : Qm) (x : Ins) : Decidable (qNone q x) := by unfold qNone; infer_instance
def qThr (q : Qm) (pc : Int) (x : Ins) (R : Vd × Int × ByteArray) : Qr :=
  if bErr (q.rg x.b) = 0 then
    if bErr (q.rg x.c) = 0 then
      if qNone q x then (q.put x.a ⟨1, 0, emp⟩, pc, 0)
      else if R.2.1 = 0 then ((q.look (bKey (q.rg x.b)) R.2.2).put x.a R.1, pc, 0) else (q.look (bKey (q.rg x.b)) R.2.2, pc, stE R.2.1)
    else (q, pc, stE (bErr (q.rg x.c)))
  else (q, pc, stE (bErr (q.rg x.b)))
noncomputable def stepQ (dig : Int → List Int) (L : KV) (al : List Vd) (pc : Int) (x : Ins) (q : Qm) : Nat → Qr
  | 1 => (q.put x.a ⟨x.k, x.i, x.t⟩, pc, 0)
  | 2 => (q.put x.a (al.getD x.n.toNat z0), pc, 0)
  | 3 => if kErr (q.rg x.b) = 0 then
      match lkp (q.rg x.b).t q.l with
      | some v => (q.put x.a v, pc, 0)
      | none => ((q.look (q.rg x.b).t (q.rg x.b).t).put x.a (seenF L q.l (q.rg x.b).t), pc, 0)
    else (q, pc, stE (kErr (q.rg x.b)))
  | 4 => if kErr (q.rg x.a) = 0 then ({ q with l := kset (q.rg x.a).t (q.rg x.b) q.l }, pc, 0) else (q, pc, stE (kErr (q.rg x.a)))
  | 5 => if kErr (q.rg x.a) = 0 then ({ q with l := kset (q.rg x.a).t ⟨0, 0, emp⟩ q.l }, pc, 0) else (q, pc, stE (kErr (q.rg x.a)))
  | 6 => qRck q pc x.a (rckP (isI (q.rg x.b).k (q.rg x.b).t) (isI (q.rg x.c).k (q.rg x.c).t) ((q.rg x.b).i + (q.rg x.c).i))
  | 7 => qRck q pc x.a (rckP (isI (q.rg x.b).k (q.rg x.b).t) (isI (q.rg x.c).k (q.rg x.c).t) ((q.rg x.b).i - (q.rg x.c).i))
  | 8 => qRck q pc x.a (rckP (isI (q.rg x.b).k (q.rg x.b).t) (isI (q.rg x.c).k (q.rg x.c).t) ((q.rg x.b).i * (q.rg x.c).i))
  | 9 => qRck q pc x.a (joinP dig (q.rg x.b) (q.rg x.c))
  | 10 => (q, pc, if qHolds q x = true then 0 else 2)
  | 11 => (q, if qHolds q x = true then pc + x.a else pc, 0)
  | 12 => qThr q pc x (sumR L q.l x (q.rg x.b) (q.rg x.c))
  | 13 => qThr q pc x (countR L q.l x (q.rg x.b) (q.rg x.c))
  | 14 => if bErr (q.rg x.b) = 0 then ((q.look (nfrom (bKey (q.rg x.b))) (abv L q.l emp (bKey (q.rg x.b)))).put x.a (nextV L q.l (q.rg x.b)), pc, 0) else (q, pc, stE (bErr (q.rg x.b)))
  | _ => if q.td.length = 64 then (q, pc, 5) else ({ q with td := q.td ++ [q.rg x.a] }, pc, 0)
theorem stepQ_3 (dig : Int → List Int) (L : KV) (al : List Vd) (pc : Int) (x : Ins) (q : Qm) : stepQ dig L al pc x q 3 = (if kErr (q.rg x.b) = 0 then
      match lkp (q.rg x.b).t q.l with
      | some v => (q.put x.a v, pc, 0)
      | none => ((q.look (q.rg x.b).t (q.rg x.b).t).put x.a (seenF L q.l (q.rg x.b).t), pc, 0)
    else (q, pc, stE (kErr (q.rg x.b)))) := rfl
theorem stepQ_4 (dig : Int → List Int) (L : KV) (al : List Vd) (pc : Int) (x : Ins) (q : Qm) : stepQ dig L al pc x q 4 = (if kErr (q.rg x.a) = 0 then ({ q with l := kset (q.rg x.a).t (q.rg x.b) q.l }, pc, 0) else (q, pc, stE (kErr (q.rg x.a)))) := rfl
theorem stepQ_5 (dig : Int → List Int) (L : KV) (al : List Vd) (pc : Int) (x : Ins) (q : Qm) : stepQ dig L al pc x q 5 = (if kErr (q.rg x.a) = 0 then ({ q with l := kset (q.rg x.a).t ⟨0, 0, emp⟩ q.l }, pc, 0) else (q, pc, stE (kErr (q.rg x.a)))) := rfl
theorem stepQ_10 (dig : Int → List Int) (L : KV) (al : List Vd) (pc : Int) (x : Ins) (q : Qm) : stepQ dig L al pc x q 10 = ((q, pc, if qHolds q x = true then 0 else 2)) := rfl
theorem stepQ_11 (dig : Int → List Int) (L : KV) (al : List Vd) (pc : Int) (x : Ins) (q : Qm) : stepQ dig L al pc x q 11 = ((q, if qHolds q x = true then pc + x.a else pc, 0)) := rfl
theorem stepQ_14 (dig : Int → List Int) (L : KV) (al : List Vd) (pc : Int) (x : Ins) (q : Qm) : stepQ dig L al pc x q 14 = (if bErr (q.rg x.b) = 0 then ((q.look (nfrom (bKey (q.rg x.b))) (abv L q.l emp (bKey (q.rg x.b)))).put x.a (nextV L q.l (q.rg x.b)), pc, 0) else (q, pc, stE (bErr (q.rg x.b)))) := rfl
def vok (v : Vd) : Prop := chk v.k v.i v.t = 0 ∧ inR v.i = true
structure LOk (L : KV) : Prop where
  v : VOk L
  ok : ∀ x ∈ L, vok x.2
structure QOk (q : Qm) : Prop where
  rg : ∀ r, vok (q.rg r)
  kk : KOk q.l
  lv : ∀ x ∈ q.l, vok x.2
  td : ∀ v ∈ q.td, vok v
theorem lkp_mem2 {key : ByteArray} {v : Vd} : ∀ {l : KV}, lkp key l = some v → (key, v) ∈ l
  | [], h => by cases h
  | x :: l, h => by
    unfold lkp at h
    by_cases e : x.1 = key
    · rw [if_pos e] at h
      injection h with h
      rw [← e, ← h]
      exact List.mem_cons_self
    · rw [if_neg e] at h
      exact List.mem_cons_of_mem _ (lkp_mem2 h)
theorem vok_z0 : vok z0 := ⟨by simp [chk, z0], by simp [inR, z0]⟩
theorem seen_vok {L l : KV} (hL : ∀ x ∈ L, vok x.2) (hl : ∀ x ∈ l, vok x.2) (k : ByteArray) : vok (seenF L l k) := by
  unfold seenF
  cases h : lkp k l with
  | some v => exact hl _ (lkp_mem2 h)
  | none =>
    dsimp only
    cases h2 : lkp k L with
    | some v => exact hL _ (lkp_mem2 h2)
    | none => exact vok_z0
def StP (B : Nat) (w : World) (mb M : Nat) (vw av : Value) (s : Ms) (R : Qr) (e : Ending) (w' : World) : Prop :=
  e = (if R.2.2 = 0 then .returned (.tuple #[]) else gu R.2.2) ∧ MY w' B mb M R.2.1 (R.1.mc vw av) ∧ Kept (Sx s mb M) w w'
section
variable {w w' : World} {B mb M : Nat} {vw av tv lv : Value} {pc : Int} {q : Qm}
theorem stp_did {c' : Qm} {pc' : Int} {s' : Ms} {kv : List (ByteArray × Value)} {td : List Vd} (hs : ∃ tv', s' = (c'.mc vw av).ms pc' tv' lv M) (hkv : kv = kvV c'.l) (htd : td = c'.td) (hlk : c'.lk = q.lk) {e : Ending} (h : Did B w mb ((q.mc vw av).ms pc tv lv M) s' td q.lk M kv e w') : StP B w mb M vw av ((q.mc vw av).ms pc tv lv M) (c', pc', 0) e w' := by
  obtain ⟨h1, h2, h3⟩ := h
  obtain ⟨tv', rfl⟩ := hs
  subst hkv htd
  rw [← hlk] at h2
  exact ⟨by rw [if_pos rfl]; exact h1, ⟨tv', lv, h2⟩, h3⟩
theorem stp_gave {st : Int} (hst : st ≠ 0) {e : Ending} (h : Gave B w mb ((q.mc vw av).ms pc tv lv M) q.td q.lk M (kvV q.l) st e w') : StP B w mb M vw av ((q.mc vw av).ms pc tv lv M) (q, pc, st) e w' := by
  obtain ⟨h1, h2, h3⟩ := h
  exact ⟨by rw [if_neg hst]; exact h1, ⟨tv, lv, h2⟩, h3⟩
theorem stp_dup {c' : Qm} {s' : Value → Ms} {lk' : List (ByteArray × ByteArray)} (hs : ∀ v, s' v = (c'.mc vw av).ms pc tv v M) (hl : c'.l = q.l) (htd : c'.td = q.td) (hlk : c'.lk = lk') {e : Ending} (h : Dup B w mb ((q.mc vw av).ms pc tv lv M) s' q.td lk' M q.l e w') : StP B w mb M vw av ((q.mc vw av).ms pc tv lv M) (c', pc, 0) e w' := by
  obtain ⟨h1, ⟨v', h2⟩, h3⟩ := h
  rw [hs, ← htd, ← hlk, ← hl] at h2
  exact ⟨by rw [if_pos rfl]; exact h1, ⟨tv, v', h2⟩, h3⟩
theorem stp_gup {f t : ByteArray} {st : Int} (hst : st ≠ 0) {e : Ending} (h : Gup B w mb ((q.mc vw av).ms pc tv lv M) q.td (q.lk ++ [(f, t)]) M q.l st e w') : StP B w mb M vw av ((q.mc vw av).ms pc tv lv M) (q.look f t, pc, st) e w' := by
  obtain ⟨h1, ⟨v', h2⟩, h3⟩ := h
  exact ⟨by rw [if_neg hst]; exact h1, ⟨tv, v', h2⟩, h3⟩
theorem stE_ne {e : Int} (h : isErr e) : stE e ≠ 0 := by
  rcases h with rfl | rfl | rfl | rfl <;> decide
theorem stp_rck {a : Int} {R : Vd × Int} (hR : R.2 = 0 ∨ isErr R.2) {e : Ending} (h : Rck B w mb ((q.mc vw av).ms pc tv lv M) q.td q.lk M (kvV q.l) a R e w') : StP B w mb M vw av ((q.mc vw av).ms pc tv lv M) (qRck q pc a R) e w' := by
  unfold Rck at h
  unfold qRck
  by_cases e0 : R.2 = 0
  · rw [if_pos e0] at h ⊢
    exact stp_did (q := q) (pc := pc) (c' := q.put a R.1) ⟨tv, rfl⟩ rfl rfl rfl h
  · rw [if_neg e0] at h ⊢
    exact stp_gave (stE_ne (hR.resolve_left e0)) h
theorem fit_of {x : Ins} {ar bh : Int} (h : insErr x ar bh = 0) : ∃ y, chkF ar bh (opF (opN x.op)) x = some y ∧ chk x.k x.i x.t = 0 := by
  unfold insErr at h
  split at h
  · unfold opErr at h
    split at h
    · cases h
    · rename_i y hy
      split at h
      · exact ⟨y, hy, h⟩
      · cases h
  · cases h
theorem bErr_er {v : Vd} (h : bErr v ≠ 0) : isErr (bErr v) := by
  obtain ⟨-, h1, h2⟩ := bErr_no h
  rw [h2]
  exact kErr_no h1
theorem thr_er_sum (L l : KV) (x : Ins) (rb rc : Vd) : (sumR L l x rb rc).2.1 = 0 ∨ isErr (sumR L l x rb rc).2.1 := thr_err (fun _ _ => rckP_er _ _ _) _ _ _
theorem thr_er_cnt (L l : KV) (x : Ins) (rb rc : Vd) : (countR L l x rb rc).2.1 = 0 ∨ isErr (countR L l x rb rc).2.1 := thr_err (fun _ _ => .inl rfl) _ _ _
theorem stp_thr {R : Vd × Int × ByteArray} {x : Ins} (hR : R.2.1 = 0 ∨ isErr R.2.1) (hB : bErr (q.rg x.b) = 0) (hC : bErr (q.rg x.c) = 0) (hn : ¬ qNone q x) {e : Ending}
    (h : (if R.2.1 = 0 then Dup B w mb ((q.mc vw av).ms pc tv lv M) (fun v' => ({ (q.mc vw av).ms pc tv lv M with lv := v' } : Ms).set x.a R.1) q.td (q.lk ++ [(bKey (q.rg x.b), R.2.2)]) M q.l
       else Gup B w mb ((q.mc vw av).ms pc tv lv M) q.td (q.lk ++ [(bKey (q.rg x.b), R.2.2)]) M q.l (stE R.2.1)) e w') :
    StP B w mb M vw av ((q.mc vw av).ms pc tv lv M) (qThr q pc x R) e w' := by
  unfold qThr
  rw [if_pos hB, if_pos hC, if_neg hn]
  by_cases e0 : R.2.1 = 0
  · rw [if_pos e0] at h ⊢
    exact stp_dup (c' := (q.look (bKey (q.rg x.b)) R.2.2).put x.a R.1) (fun _ => rfl) rfl rfl rfl h
  · rw [if_neg e0] at h ⊢
    exact stp_gup (stE_ne (hR.resolve_left e0)) h
end
end Go.Proofs.YthcoigbkdbkojabGreat
namespace Go.Proofs.YthcoigbkdbkojabGreat
open Go.RowKit Go.MapKept
open V (hp_new hp_lt hp_below hp_alloc)
section
variable {w w' : World} {B mb M : Nat} {s : Ms} {td : List Vd} {lk : List (ByteArray × ByteArray)} {l : KV} {kv : List (ByteArray × Value)}
set_option maxHeartbeats 1600000 in
theorem set_any (x : Ins) (h : MX w B mb s td lk M kv) (h0 : 0 ≤ x.a) (h1 : x.a < 16) :
    Calls Tryz.prog 63 #[.pointer (some ⟨mb, 0, none⟩), x.val] w (Did B w mb s (s.set x.a ⟨x.k, x.i, x.t⟩) td lk M kv) := by
  obtain ⟨op, a, bb, cc, n, vk, vi, vt⟩ := x
  dsimp only at h0 h1 ⊢
  obtain ⟨a, rfl⟩ := Int.eq_ofNat_of_zero_le h0
  have ha2 : a < 16 := by omega
  have hml := h.m.lt
  obtain ⟨r0, r1, r2⟩ := h.m.reg a h0 h1
  rw [Int.toNat_natCast] at r0 r1 r2
  have hfz := h.m.free
  have HM := hid h
  clear h
  unfold Ins.val
  go_enter Tryz.func63, Tryz.ntmps63
  go_wp2_with fail
  go_region
  all_goals
    go_end0
    exact did_set HM.out a ha2 ⟨vk, vi, vt⟩ _
set_option maxHeartbeats 3200000 in
theorem put_ok (x : Ins) (h : MX w B mb s td lk M (kvV l)) (a0 : 0 ≤ x.a) (a1 : x.a < 16) (b0 : 0 ≤ x.b) (b1 : x.b < 16) (hk : kErr (s.rg x.a) = 0) :
    Calls Tryz.prog 66 #[.pointer (some ⟨mb, 0, none⟩), x.val] w (Did B w mb s s td lk M (kvV (kset (s.rg x.a).t (s.rg x.b) l))) := by
  obtain ⟨op, a, b, c, n', vk, vi, vt⟩ := x
  dsimp only at a0 a1 b0 b1 hk ⊢
  obtain ⟨b, rfl⟩ := Int.eq_ofNat_of_zero_le b0
  have hml := h.m.lt
  have hb0 : Below w.heap.size w (w.alloc (io op a b c n' vk vi vt)) := below1 w _
  have hx0 := h.below hb0
  have HK := hid (fun W (hb : Below (w.alloc (io op a b c n' vk vi vt)).heap.size (w.alloc (io op a b c n' vk vi vt)) W) => keym_ok a (hx0.below hb) a0 a1 hk)
  generalize (s.rg a).t = key at HK ⊢
  obtain ⟨-, y1, y2, -⟩ := cells8 (hp_new w (io op a b c n' vk vi vt))
  have HS := hid (show ∀ W, Below (w.alloc (io op a b c n' vk vi vt)).heap.size (w.alloc (io op a b c n' vk vi vt)) W → W.cell? ⟨w.heap.size, 1, none⟩ = some (.int .i64 a) ∧ W.cell? ⟨w.heap.size, 2, none⟩ = some (.int .i64 b) ∧ W.cell? ⟨mb, 52, none⟩ = some (.map (some M)) ∧ W.cell? ⟨mb, 3 + b * 3, none⟩ = some (.int .i64 (s.rg b).k) ∧ W.cell? ⟨mb, 3 + b * 3 + 1, none⟩ = some (.int .i64 (s.rg b).i) ∧ W.cell? ⟨mb, 3 + b * 3 + 2, none⟩ = some (.string (s.rg b).t) from fun W hb => by
    have hxW := hx0.below hb
    obtain ⟨-, -, -, -, c4, -⟩ := hxW.m.cells
    rw [h.wv] at c4
    obtain ⟨r0, r1, r2⟩ := hxW.m.reg b b0 b1
    rw [Int.toNat_natCast] at r0 r1 r2
    exact ⟨(hb.cell (World.block_lt_of_cell? _ _ y1)).trans y1, (hb.cell (World.block_lt_of_cell? _ _ y2)).trans y2, c4, r0, r1, r2⟩)
  have HX := hid (And.intro h (And.intro hx0 hb0))
  obtain ⟨t1, t2, t3, t4, t5, t6⟩ := HS.out _ ((Below.refl _ _).drew)
  clear h hx0 hb0 hk y1 y2
  unfold Ins.val
  go_enter Tryz.func66, Tryz.ntmps66
  go_wp2_with fail
  go_region_law
    (first
      | (go_simp; go_wp2_with (go_at_call 91; refine (HK.out _ ((Below.refl _ _).drew)).mono ?_; rintro e w1 ⟨rfl, hb1'⟩; have hb1 := (show Below (w.alloc (io op a b c n' vk vi vt)).heap.size (w.alloc (io op a b c n' vk vi vt)) w1 from ⟨hb1'.os, hb1'.tape, hb1'.output, hb1'.size, hb1'.block⟩); obtain ⟨k1, k2, k3, k4, k5, k6⟩ := HS.out _ hb1; have HB1 := hid (below_on HX.out.2.2 hb1); obtain ⟨ob, hup, hxo, hko⟩ := (HX.out.1.below HB1.out).upd key (s.rg b); have HU := hid (And.intro hxo hko); clear hb1 hb1' hxo hko)))
  all_goals
    go_end0
    exact ⟨rfl, HU.out.1, (bsx HB1.out).trans HU.out.2 (fun _ _ e => .inr (.inl e))⟩
set_option maxHeartbeats 3200000 in
theorem put_no (x : Ins) (h : MX w B mb s td lk M kv) (a0 : 0 ≤ x.a) (a1 : x.a < 16) (b0 : 0 ≤ x.b) (b1 : x.b < 16) (hk : kErr (s.rg x.a) ≠ 0) :
    Calls Tryz.prog 66 #[.pointer (some ⟨mb, 0, none⟩), x.val] w (Gave B w mb s td lk M kv (stE (kErr (s.rg x.a)))) := by
  obtain ⟨op, a, b, c, n', vk, vi, vt⟩ := x
  dsimp only at a0 a1 b0 b1 hk ⊢
  obtain ⟨b, rfl⟩ := Int.eq_ofNat_of_zero_le b0
  have hml := h.m.lt
  have hb0 : Below w.heap.size w (w.alloc (io op a b c n' vk vi vt)) := below1 w _
  have hx0 := h.below hb0
  have HK := hid (fun W (hb : Below (w.alloc (io op a b c n' vk vi vt)).heap.size (w.alloc (io op a b c n' vk vi vt)) W) => keym_no a (hx0.below hb) a0 a1 hk)
  generalize kErr (s.rg a) = er at HK ⊢
  obtain ⟨-, t1, t2, -⟩ := cells8 (hp_new w (io op a b c n' vk vi vt))
  obtain ⟨-, -, -, -, c4, -⟩ := hx0.m.cells
  rw [h.wv] at c4
  obtain ⟨r0, r1, r2⟩ := hx0.m.reg b b0 b1
  rw [Int.toNat_natCast] at r0 r1 r2
  have HX := hid (And.intro h (And.intro hx0 hb0))
  clear h hx0 hb0 hk
  unfold Ins.val
  go_enter Tryz.func66, Tryz.ntmps66
  go_wp2_with fail
  go_region_dies
  all_goals
    refine (HK.out _ ((Below.refl _ _).drew)).mono ?_
    rintro e w1 ⟨rfl, hb1'⟩
    have hb1 := (show Below (w.alloc (io op a b c n' vk vi vt)).heap.size (w.alloc (io op a b c n' vk vi vt)) w1 from ⟨hb1'.os, hb1'.tape, hb1'.output, hb1'.size, hb1'.block⟩)
    exact ⟨rfl, rfl, HX.out.2.1.below hb1, bsx (below_on HX.out.2.2 hb1)⟩
set_option maxHeartbeats 3200000 in
theorem del_ok (x : Ins) (h : MX w B mb s td lk M (kvV l)) (a0 : 0 ≤ x.a) (a1 : x.a < 16) (hk : kErr (s.rg x.a) = 0) :
    Calls Tryz.prog 67 #[.pointer (some ⟨mb, 0, none⟩), x.val] w (Did B w mb s s td lk M (kvV (kset (s.rg x.a).t ⟨0, 0, emp⟩ l))) := by
  obtain ⟨op, a, b, c, n', vk, vi, vt⟩ := x
  dsimp only at a0 a1 hk ⊢
  have hml := h.m.lt
  have hb0 : Below w.heap.size w (w.alloc (io op a b c n' vk vi vt)) := below1 w _
  have hx0 := h.below hb0
  have HK := hid (fun W (hb : Below (w.alloc (io op a b c n' vk vi vt)).heap.size (w.alloc (io op a b c n' vk vi vt)) W) => keym_ok a (hx0.below hb) a0 a1 hk)
  generalize (s.rg a).t = key at HK ⊢
  obtain ⟨-, y1, y2, -⟩ := cells8 (hp_new w (io op a b c n' vk vi vt))
  have HS := hid (show ∀ W, Below (w.alloc (io op a b c n' vk vi vt)).heap.size (w.alloc (io op a b c n' vk vi vt)) W → W.cell? ⟨w.heap.size, 1, none⟩ = some (.int .i64 a) ∧ W.cell? ⟨w.heap.size, 2, none⟩ = some (.int .i64 b) ∧ W.cell? ⟨mb, 52, none⟩ = some (.map (some M)) from fun W hb => by
    have hxW := hx0.below hb
    obtain ⟨-, -, -, -, c4, -⟩ := hxW.m.cells
    rw [h.wv] at c4
    exact ⟨(hb.cell (World.block_lt_of_cell? _ _ y1)).trans y1, (hb.cell (World.block_lt_of_cell? _ _ y2)).trans y2, c4⟩)
  have HX := hid (And.intro h (And.intro hx0 hb0))
  obtain ⟨t1, t2, t3⟩ := HS.out _ ((Below.refl _ _).drew)
  clear h hx0 hb0 hk y1 y2
  unfold Ins.val
  go_enter Tryz.func67, Tryz.ntmps67
  go_wp2_with fail
  go_region_law
    (first
      | (go_simp; go_wp2_with (go_at_call 91; refine (HK.out _ ((Below.refl _ _).drew)).mono ?_; rintro e w1 ⟨rfl, hb1'⟩; have hb1 := (show Below (w.alloc (io op a b c n' vk vi vt)).heap.size (w.alloc (io op a b c n' vk vi vt)) w1 from ⟨hb1'.os, hb1'.tape, hb1'.output, hb1'.size, hb1'.block⟩); obtain ⟨k1, k2, k3⟩ := HS.out _ hb1; have HB1 := hid (below_on HX.out.2.2 hb1); obtain ⟨ob, hup, hxo, hko⟩ := (HX.out.1.below HB1.out).upd key ⟨0, 0, emp⟩; have HU := hid (And.intro hxo hko); clear hb1 hb1' hxo hko)))
  all_goals
    go_end0
    exact ⟨rfl, HU.out.1, (bsx HB1.out).trans HU.out.2 (fun _ _ e => .inr (.inl e))⟩
set_option maxHeartbeats 3200000 in
theorem del_no (x : Ins) (h : MX w B mb s td lk M kv) (a0 : 0 ≤ x.a) (a1 : x.a < 16) (hk : kErr (s.rg x.a) ≠ 0) :
    Calls Tryz.prog 67 #[.pointer (some ⟨mb, 0, none⟩), x.val] w (Gave B w mb s td lk M kv (stE (kErr (s.rg x.a)))) := by
  obtain ⟨op, a, b, c, n', vk, vi, vt⟩ := x
  dsimp only at a0 a1 hk ⊢
  have hml := h.m.lt
  have hb0 : Below w.heap.size w (w.alloc (io op a b c n' vk vi vt)) := below1 w _
  have hx0 := h.below hb0
  have HK := hid (fun W (hb : Below (w.alloc (io op a b c n' vk vi vt)).heap.size (w.alloc (io op a b c n' vk vi vt)) W) => keym_no a (hx0.below hb) a0 a1 hk)
  generalize kErr (s.rg a) = er at HK ⊢
  obtain ⟨-, t1, t2, -⟩ := cells8 (hp_new w (io op a b c n' vk vi vt))
  obtain ⟨-, -, -, -, c4, -⟩ := hx0.m.cells
  rw [h.wv] at c4
  have HX := hid (And.intro h (And.intro hx0 hb0))
  clear h hx0 hb0 hk
  unfold Ins.val
  go_enter Tryz.func67, Tryz.ntmps67
  go_wp2_with fail
  go_region_dies
  all_goals
    refine (HK.out _ ((Below.refl _ _).drew)).mono ?_
    rintro e w1 ⟨rfl, hb1'⟩
    have hb1 := (show Below (w.alloc (io op a b c n' vk vi vt)).heap.size (w.alloc (io op a b c n' vk vi vt)) w1 from ⟨hb1'.os, hb1'.tape, hb1'.output, hb1'.size, hb1'.block⟩)
    exact ⟨rfl, rfl, HX.out.2.1.below hb1, bsx (below_on HX.out.2.2 hb1)⟩
theorem MX.pcs (h : MX w B mb s td lk M kv) (n : Int) : MX (w.setCell ⟨mb, 2, none⟩ (.int .i64 n)) B mb { s with pc := n } td lk M kv :=
  h.own (h.m.setAt n) ((Kept.refl (fun k => k = mb) w).setCell (p := ⟨mb, 2, none⟩) (fun _ => rfl) _) rfl rfl rfl
set_option maxHeartbeats 1600000 in
theorem skip_any (x : Ins) (h : MX w B mb s td lk M kv) (b0 : 0 ≤ x.b) (b1 : x.b < 16) (c0 : 0 ≤ x.c) (c1 : x.c < 16) (p0 : 0 ≤ s.pc) (p1 : s.pc ≤ 100000) (q0 : 0 ≤ x.a) (q1 : x.a ≤ 100000) (q : Bool) (hq : holdsB x.n (cmpV (s.rg x.b).k (s.rg x.b).i (s.rg x.b).t (s.rg x.c).k (s.rg x.c).i (s.rg x.c).t) = q) :
    Calls Tryz.prog 73 #[.pointer (some ⟨mb, 0, none⟩), x.val] w (Did B w mb s { s with pc := if q = true then s.pc + x.a else s.pc } td lk M kv) := by
  have hh := fun (W : World) (hb : Below w.heap.size w W) => holds_m x (h.below hb) b0 b1 c0 c1
  simp only [hq] at hh
  obtain ⟨op, a, b, c, n, vk, vi, vt⟩ := x
  have HH := hid hh
  have hbl0 : Below w.heap.size w (w.alloc (io op a b c n vk vi vt)) := below1 w _
  have HX := hid (And.intro h hbl0)
  obtain ⟨-, t1, -⟩ := cells8 (hp_new w (io op a b c n vk vi vt))
  have hwk : IntKind.i64.wrap (s.pc + a) = s.pc + a := by dsimp only at q0 q1; rw [IntKind.wrap_i64]; omega
  have ht1 := World.block_lt_of_cell? _ _ t1
  have hml := h.m.lt
  clear h hh hq b0 b1 c0 c1 p0 p1 q0 q1 hbl0
  unfold Ins.val at HH ⊢
  dsimp only at HH ⊢
  cases q
  · simp only [Bool.false_eq_true, if_false]
    go_enter Tryz.func73, Tryz.ntmps73
    go_wp2_with (first
      | (go_at_call 99
         refine (HH.out _ HX.out.2).mono ?_
         rintro e w1 ⟨rfl, hb1⟩
         have HB := hid (below_on HX.out.2 hb1)
         clear hb1))
    go_end0
    exact ⟨rfl, HX.out.1.below HB.out, bsx HB.out⟩
  · simp only [if_true]
    go_enter Tryz.func73, Tryz.ntmps73
    go_wp2_with (first
      | (go_at_call 99
         refine (HH.out _ HX.out.2).mono ?_
         rintro e w1 ⟨rfl, hb1⟩
         have HB := hid (below_on HX.out.2 hb1)
         have t2 := (hb1.cell ht1).trans t1
         have hx1 := HX.out.1.below (below_on HX.out.2 hb1)
         obtain ⟨-, -, c2, -⟩ := hx1.m.cells
         have hfz := hx1.m.free
         have hml1 := hx1.m.lt
         have H1 := hid hx1
         clear hb1 hx1))
    go_region
    all_goals
      go_end0
      exact ⟨rfl, (H1.out.pcs (s.pc + a)).below ((Below.refl _ _).drew), ((bsx HB.out).setCell (p := ⟨mb, 2, none⟩) (fun _ => .inl rfl) _).drew⟩
set_option maxHeartbeats 1600000 in
theorem tell_full (x : Ins) (h : MX w B mb s td lk M kv) (hl : td.length = 64) :
    Calls Tryz.prog 77 #[.pointer (some ⟨mb, 0, none⟩), x.val] w (Gave B w mb s td lk M kv 5) := by
  obtain ⟨op, a, b, c, n', vk, vi, vt⟩ := x
  obtain ⟨al, cl, htv⟩ := own_shape h.td
  have hb0 : Below w.heap.size w (w.alloc (io op a b c n' vk vi vt)) := below1 w _
  have hx0 := h.below hb0
  obtain ⟨-, -, -, c3, -, -⟩ := hx0.m.cells
  rw [htv, hl] at c3
  have HX := hid (And.intro hx0 hb0)
  clear h hx0 hb0 htv hl
  unfold Ins.val
  go_enter Tryz.func77, Tryz.ntmps77
  go_wp2_with (
    go_at_call 100
    refine (gaveup 5 _).mono ?_
    rintro e w' ⟨rfl, e1⟩
    rw [e1]
    clear e1 w')
  exact ⟨rfl, rfl, HX.out.1, bsx HX.out.2⟩
end
end Go.Proofs.YthcoigbkdbkojabGreat
