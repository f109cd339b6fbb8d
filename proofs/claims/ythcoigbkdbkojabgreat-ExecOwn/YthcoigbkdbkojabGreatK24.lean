import Derived.Test.YthcoigbkdbkojabGreatK23
set_option maxRecDepth 100000
namespace Go.Proofs.YthcoigbkdbkojabGreat
open Go.RowKit Go.MapKept
open V (hp_new hp_lt hp_below hp_alloc kl)
theorem chkF_cons {ar bh : Int} {f : Fk} {fs : List Fk} {y z : Ins} (h : chkF ar bh (f :: fs) y = some z) : f.fits (f.get y) ar bh = true ∧ chkF ar bh fs (f.set 0 y) = some z := by
  unfold chkF at h
  split at h
  · exact ⟨by assumption, h⟩
  · cases h
theorem within_of {n l m : Int} (h : withinB n l m = true) : l ≤ n ∧ n ≤ m := by simpa [withinB] using h
theorem vok_size {v : Vd} (h : vok v) : v.t.size ≤ 256 := by
  have h1 := h.1
  unfold chk at h1
  have e0 : (⟨#[]⟩ : ByteArray).size = 0 := rfl
  split at h1
  · split at h1
    · rename_i e; rw [e]; omega
    · cases h1
  · split at h1
    · split at h1
      · split at h1
        · cases h1
        · omega
      · cases h1
    · split at h1
      · rename_i e; rw [e.2.2]; omega
      · cases h1
section
variable {x : Ins} {ar bh : Int}
theorem fld_1 (h : insErr x ar bh = 0) (ho : x.op = 1) : (0 ≤ x.a ∧ x.a ≤ 15) ∧ chk x.k x.i x.t = 0 := by
  obtain ⟨y, hy, hc⟩ := fit_of h
  rw [show opN x.op = 1 by rw [ho]; rfl] at hy
  obtain ⟨h0, hy⟩ := chkF_cons hy
  exact ⟨within_of h0, hc⟩
theorem fld_2 (h : insErr x ar bh = 0) (ho : x.op = 2) : (0 ≤ x.a ∧ x.a ≤ 15) ∧ (0 ≤ x.n ∧ x.n ≤ wrap64 (ar - 1)) ∧ chk x.k x.i x.t = 0 := by
  obtain ⟨y, hy, hc⟩ := fit_of h
  rw [show opN x.op = 2 by rw [ho]; rfl] at hy
  obtain ⟨h0, hy⟩ := chkF_cons hy
  obtain ⟨h1, hy⟩ := chkF_cons hy
  exact ⟨within_of h0, within_of h1, hc⟩
theorem fld_3 (h : insErr x ar bh = 0) (ho : x.op = 3) : (0 ≤ x.a ∧ x.a ≤ 15) ∧ (0 ≤ x.b ∧ x.b ≤ 15) ∧ chk x.k x.i x.t = 0 := by
  obtain ⟨y, hy, hc⟩ := fit_of h
  rw [show opN x.op = 3 by rw [ho]; rfl] at hy
  obtain ⟨h0, hy⟩ := chkF_cons hy
  obtain ⟨h1, hy⟩ := chkF_cons hy
  exact ⟨within_of h0, within_of h1, hc⟩
theorem fld_4 (h : insErr x ar bh = 0) (ho : x.op = 4) : (0 ≤ x.a ∧ x.a ≤ 15) ∧ (0 ≤ x.b ∧ x.b ≤ 15) ∧ chk x.k x.i x.t = 0 := by
  obtain ⟨y, hy, hc⟩ := fit_of h
  rw [show opN x.op = 4 by rw [ho]; rfl] at hy
  obtain ⟨h0, hy⟩ := chkF_cons hy
  obtain ⟨h1, hy⟩ := chkF_cons hy
  exact ⟨within_of h0, within_of h1, hc⟩
theorem fld_5 (h : insErr x ar bh = 0) (ho : x.op = 5) : (0 ≤ x.a ∧ x.a ≤ 15) ∧ chk x.k x.i x.t = 0 := by
  obtain ⟨y, hy, hc⟩ := fit_of h
  rw [show opN x.op = 5 by rw [ho]; rfl] at hy
  obtain ⟨h0, hy⟩ := chkF_cons hy
  exact ⟨within_of h0, hc⟩
theorem fld_6 (h : insErr x ar bh = 0) (ho : x.op = 6) : (0 ≤ x.a ∧ x.a ≤ 15) ∧ (0 ≤ x.b ∧ x.b ≤ 15) ∧ (0 ≤ x.c ∧ x.c ≤ 15) ∧ chk x.k x.i x.t = 0 := by
  obtain ⟨y, hy, hc⟩ := fit_of h
  rw [show opN x.op = 6 by rw [ho]; rfl] at hy
  obtain ⟨h0, hy⟩ := chkF_cons hy
  obtain ⟨h1, hy⟩ := chkF_cons hy
  obtain ⟨h2, hy⟩ := chkF_cons hy
  exact ⟨within_of h0, within_of h1, within_of h2, hc⟩
theorem fld_7 (h : insErr x ar bh = 0) (ho : x.op = 7) : (0 ≤ x.a ∧ x.a ≤ 15) ∧ (0 ≤ x.b ∧ x.b ≤ 15) ∧ (0 ≤ x.c ∧ x.c ≤ 15) ∧ chk x.k x.i x.t = 0 := by
  obtain ⟨y, hy, hc⟩ := fit_of h
  rw [show opN x.op = 7 by rw [ho]; rfl] at hy
  obtain ⟨h0, hy⟩ := chkF_cons hy
  obtain ⟨h1, hy⟩ := chkF_cons hy
  obtain ⟨h2, hy⟩ := chkF_cons hy
  exact ⟨within_of h0, within_of h1, within_of h2, hc⟩
theorem fld_8 (h : insErr x ar bh = 0) (ho : x.op = 8) : (0 ≤ x.a ∧ x.a ≤ 15) ∧ (0 ≤ x.b ∧ x.b ≤ 15) ∧ (0 ≤ x.c ∧ x.c ≤ 15) ∧ chk x.k x.i x.t = 0 := by
  obtain ⟨y, hy, hc⟩ := fit_of h
  rw [show opN x.op = 8 by rw [ho]; rfl] at hy
  obtain ⟨h0, hy⟩ := chkF_cons hy
  obtain ⟨h1, hy⟩ := chkF_cons hy
  obtain ⟨h2, hy⟩ := chkF_cons hy
  exact ⟨within_of h0, within_of h1, within_of h2, hc⟩
theorem fld_9 (h : insErr x ar bh = 0) (ho : x.op = 9) : (0 ≤ x.a ∧ x.a ≤ 15) ∧ (0 ≤ x.b ∧ x.b ≤ 15) ∧ (0 ≤ x.c ∧ x.c ≤ 15) ∧ chk x.k x.i x.t = 0 := by
  obtain ⟨y, hy, hc⟩ := fit_of h
  rw [show opN x.op = 9 by rw [ho]; rfl] at hy
  obtain ⟨h0, hy⟩ := chkF_cons hy
  obtain ⟨h1, hy⟩ := chkF_cons hy
  obtain ⟨h2, hy⟩ := chkF_cons hy
  exact ⟨within_of h0, within_of h1, within_of h2, hc⟩
theorem fld_10 (h : insErr x ar bh = 0) (ho : x.op = 10) : (0 ≤ x.b ∧ x.b ≤ 15) ∧ (0 ≤ x.c ∧ x.c ≤ 15) ∧ (1 ≤ x.n ∧ x.n ≤ 6) ∧ chk x.k x.i x.t = 0 := by
  obtain ⟨y, hy, hc⟩ := fit_of h
  rw [show opN x.op = 10 by rw [ho]; rfl] at hy
  obtain ⟨h0, hy⟩ := chkF_cons hy
  obtain ⟨h1, hy⟩ := chkF_cons hy
  obtain ⟨h2, hy⟩ := chkF_cons hy
  exact ⟨within_of h0, within_of h1, within_of h2, hc⟩
theorem fld_11 (h : insErr x ar bh = 0) (ho : x.op = 11) : (1 ≤ x.a ∧ x.a ≤ bh) ∧ (0 ≤ x.b ∧ x.b ≤ 15) ∧ (0 ≤ x.c ∧ x.c ≤ 15) ∧ (1 ≤ x.n ∧ x.n ≤ 6) ∧ chk x.k x.i x.t = 0 := by
  obtain ⟨y, hy, hc⟩ := fit_of h
  rw [show opN x.op = 11 by rw [ho]; rfl] at hy
  obtain ⟨h0, hy⟩ := chkF_cons hy
  obtain ⟨h1, hy⟩ := chkF_cons hy
  obtain ⟨h2, hy⟩ := chkF_cons hy
  obtain ⟨h3, hy⟩ := chkF_cons hy
  exact ⟨within_of h0, within_of h1, within_of h2, within_of h3, hc⟩
theorem fld_12 (h : insErr x ar bh = 0) (ho : x.op = 12) : (0 ≤ x.a ∧ x.a ≤ 15) ∧ (0 ≤ x.b ∧ x.b ≤ 15) ∧ (0 ≤ x.c ∧ x.c ≤ 15) ∧ (1 ≤ x.n ∧ x.n ≤ 64) ∧ chk x.k x.i x.t = 0 := by
  obtain ⟨y, hy, hc⟩ := fit_of h
  rw [show opN x.op = 12 by rw [ho]; rfl] at hy
  obtain ⟨h0, hy⟩ := chkF_cons hy
  obtain ⟨h1, hy⟩ := chkF_cons hy
  obtain ⟨h2, hy⟩ := chkF_cons hy
  obtain ⟨h3, hy⟩ := chkF_cons hy
  exact ⟨within_of h0, within_of h1, within_of h2, within_of h3, hc⟩
theorem fld_13 (h : insErr x ar bh = 0) (ho : x.op = 13) : (0 ≤ x.a ∧ x.a ≤ 15) ∧ (0 ≤ x.b ∧ x.b ≤ 15) ∧ (0 ≤ x.c ∧ x.c ≤ 15) ∧ (1 ≤ x.n ∧ x.n ≤ 64) ∧ chk x.k x.i x.t = 0 := by
  obtain ⟨y, hy, hc⟩ := fit_of h
  rw [show opN x.op = 13 by rw [ho]; rfl] at hy
  obtain ⟨h0, hy⟩ := chkF_cons hy
  obtain ⟨h1, hy⟩ := chkF_cons hy
  obtain ⟨h2, hy⟩ := chkF_cons hy
  obtain ⟨h3, hy⟩ := chkF_cons hy
  exact ⟨within_of h0, within_of h1, within_of h2, within_of h3, hc⟩
theorem fld_14 (h : insErr x ar bh = 0) (ho : x.op = 14) : (0 ≤ x.a ∧ x.a ≤ 15) ∧ (0 ≤ x.b ∧ x.b ≤ 15) ∧ chk x.k x.i x.t = 0 := by
  obtain ⟨y, hy, hc⟩ := fit_of h
  rw [show opN x.op = 14 by rw [ho]; rfl] at hy
  obtain ⟨h0, hy⟩ := chkF_cons hy
  obtain ⟨h1, hy⟩ := chkF_cons hy
  exact ⟨within_of h0, within_of h1, hc⟩
theorem fld_15 (h : insErr x ar bh = 0) (ho : x.op = 15) : (0 ≤ x.a ∧ x.a ≤ 15) ∧ chk x.k x.i x.t = 0 := by
  obtain ⟨y, hy, hc⟩ := fit_of h
  rw [show opN x.op = 15 by rw [ho]; rfl] at hy
  obtain ⟨h0, hy⟩ := chkF_cons hy
  exact ⟨within_of h0, hc⟩
end
section
variable {w w' : World} {B mb M : Nat} {vw av tv lv : Value} {pc : Int} {q : Qm} {p : Nat} {L : KV} {x : Ins} {ar bh : Int} {al : List Vd} {dig : Int → List Int}
theorem step_1 (ho : x.op = 1) (hx : insErr x ar bh = 0) (h : MV w B mb ((q.mc vw av).ms pc tv lv M) q.td q.lk M q.l p L) :
    Calls Tryz.prog 63 #[.pointer (some ⟨mb, 0, none⟩), x.val] w (StP B w mb M vw av ((q.mc vw av).ms pc tv lv M) (stepQ dig L al pc x q 1)) := by
  obtain ⟨a, -⟩ := fld_1 hx ho
  refine (set_any x h.m a.1 (by omega)).mono ?_
  intro e w' h2
  exact stp_did (q := q) (pc := pc) (c' := q.put x.a ⟨x.k, x.i, x.t⟩) ⟨tv, rfl⟩ rfl rfl rfl h2
theorem step_2 (ho : x.op = 2) (hx : insErr x ar bh = 0) (h : MV w B mb ((q.mc vw av).ms pc tv lv M) q.td q.lk M q.l p L) (har : ar = al.length) (hal : al.length ≤ 16) (ha : Va w av al) :
    Calls Tryz.prog 64 #[.pointer (some ⟨mb, 0, none⟩), x.val] w (StP B w mb M vw av ((q.mc vw av).ms pc tv lv M) (stepQ dig L al pc x q 2)) := by
  obtain ⟨a, n, -⟩ := fld_2 hx ho
  rw [show wrap64 (ar - 1) = ar - 1 by unfold wrap64; omega] at n
  have hn : x.n.toNat < al.length := by omega
  have hv : al[x.n.toNat]? = some (al.getD x.n.toNat z0) := by
    rw [List.getD_eq_getElem?_getD, List.getElem?_eq_getElem hn]
    rfl
  refine (arg_any x _ al h.m ha a.1 (by omega) n.1 hv).mono ?_
  intro e w' h2
  exact stp_did (q := q) (pc := pc) (c' := q.put x.a (al.getD x.n.toNat z0)) ⟨tv, rfl⟩ rfl rfl rfl h2
theorem step_3 (ho : x.op = 3) (hx : insErr x ar bh = 0) (h : MV w B mb ((q.mc vw av).ms pc tv lv M) q.td q.lk M q.l p L) (hl : q.lk.length ≤ 999) :
    Calls Tryz.prog 65 #[.pointer (some ⟨mb, 0, none⟩), x.val] w (StP B w mb M vw av ((q.mc vw av).ms pc tv lv M) (stepQ dig L al pc x q 3)) := by
  obtain ⟨a, b, -⟩ := fld_3 hx ho
  rw [stepQ_3]
  by_cases hk : kErr (q.rg x.b) = 0
  · rw [if_pos hk]
    cases hv : lkp (q.rg x.b).t q.l with
    | some v =>
      refine (get_own x v h.m a.1 (by omega) b.1 (by omega) hk hv).mono ?_
      intro e w' h2
      exact stp_did (q := q) (pc := pc) (c' := q.put x.a v) ⟨tv, rfl⟩ rfl rfl rfl h2
    | none =>
      refine (get_view x h a.1 (by omega) b.1 (by omega) hk hv (by omega)).mono ?_
      intro e w' h2
      exact stp_dup (c' := (q.look (q.rg x.b).t (q.rg x.b).t).put x.a (seenF L q.l (q.rg x.b).t)) (fun _ => rfl) rfl rfl rfl h2
  · rw [if_neg hk]
    refine (get_no x h.m b.1 (by omega) hk).mono ?_
    intro e w' h2
    exact stp_gave (stE_ne (kErr_no hk)) h2
theorem step_4 (ho : x.op = 4) (hx : insErr x ar bh = 0) (h : MV w B mb ((q.mc vw av).ms pc tv lv M) q.td q.lk M q.l p L) :
    Calls Tryz.prog 66 #[.pointer (some ⟨mb, 0, none⟩), x.val] w (StP B w mb M vw av ((q.mc vw av).ms pc tv lv M) (stepQ dig L al pc x q 4)) := by
  obtain ⟨a, b, -⟩ := fld_4 hx ho
  rw [stepQ_4]
  by_cases hk : kErr (q.rg x.a) = 0
  · rw [if_pos hk]
    refine (put_ok x h.m a.1 (by omega) b.1 (by omega) hk).mono ?_
    intro e w' h2
    exact stp_did (q := q) (pc := pc) (c' := { q with l := kset (q.rg x.a).t (q.rg x.b) q.l }) ⟨tv, rfl⟩ rfl rfl rfl h2
  · rw [if_neg hk]
    refine (put_no x h.m a.1 (by omega) b.1 (by omega) hk).mono ?_
    intro e w' h2
    exact stp_gave (stE_ne (kErr_no hk)) h2
theorem step_5 (ho : x.op = 5) (hx : insErr x ar bh = 0) (h : MV w B mb ((q.mc vw av).ms pc tv lv M) q.td q.lk M q.l p L) :
    Calls Tryz.prog 67 #[.pointer (some ⟨mb, 0, none⟩), x.val] w (StP B w mb M vw av ((q.mc vw av).ms pc tv lv M) (stepQ dig L al pc x q 5)) := by
  obtain ⟨a, -⟩ := fld_5 hx ho
  rw [stepQ_5]
  by_cases hk : kErr (q.rg x.a) = 0
  · rw [if_pos hk]
    refine (del_ok x h.m a.1 (by omega) hk).mono ?_
    intro e w' h2
    exact stp_did (q := q) (pc := pc) (c' := { q with l := kset (q.rg x.a).t ⟨0, 0, emp⟩ q.l }) ⟨tv, rfl⟩ rfl rfl rfl h2
  · rw [if_neg hk]
    refine (del_no x h.m a.1 (by omega) hk).mono ?_
    intro e w' h2
    exact stp_gave (stE_ne (kErr_no hk)) h2
theorem step_6 (ho : x.op = 6) (hx : insErr x ar bh = 0) (h : MV w B mb ((q.mc vw av).ms pc tv lv M) q.td q.lk M q.l p L) (hq : QOk q) :
    Calls Tryz.prog 68 #[.pointer (some ⟨mb, 0, none⟩), x.val] w (StP B w mb M vw av ((q.mc vw av).ms pc tv lv M) (stepQ dig L al pc x q 6)) := by
  obtain ⟨a, b, c, -⟩ := fld_6 hx ho
  refine (add_rck x h.m a.1 (by omega) b.1 (by omega) c.1 (by omega) (hq.rg x.b).2 (hq.rg x.c).2).mono ?_
  intro e w' h2
  exact stp_rck (rckP_er _ _ _) h2
theorem step_7 (ho : x.op = 7) (hx : insErr x ar bh = 0) (h : MV w B mb ((q.mc vw av).ms pc tv lv M) q.td q.lk M q.l p L) (hq : QOk q) :
    Calls Tryz.prog 69 #[.pointer (some ⟨mb, 0, none⟩), x.val] w (StP B w mb M vw av ((q.mc vw av).ms pc tv lv M) (stepQ dig L al pc x q 7)) := by
  obtain ⟨a, b, c, -⟩ := fld_7 hx ho
  refine (sub_rck x h.m a.1 (by omega) b.1 (by omega) c.1 (by omega) (hq.rg x.b).2 (hq.rg x.c).2).mono ?_
  intro e w' h2
  exact stp_rck (rckP_er _ _ _) h2
theorem step_8 (ho : x.op = 8) (hx : insErr x ar bh = 0) (h : MV w B mb ((q.mc vw av).ms pc tv lv M) q.td q.lk M q.l p L) (hq : QOk q) :
    Calls Tryz.prog 70 #[.pointer (some ⟨mb, 0, none⟩), x.val] w (StP B w mb M vw av ((q.mc vw av).ms pc tv lv M) (stepQ dig L al pc x q 8)) := by
  obtain ⟨a, b, c, -⟩ := fld_8 hx ho
  refine (mul_rck x h.m a.1 (by omega) b.1 (by omega) c.1 (by omega) (hq.rg x.b).2 (hq.rg x.c).2).mono ?_
  intro e w' h2
  exact stp_rck (rckP_er _ _ _) h2
theorem step_9 (ho : x.op = 9) (hx : insErr x ar bh = 0) (h : MV w B mb ((q.mc vw av).ms pc tv lv M) q.td q.lk M q.l p L) (hq : QOk q) (hd : Digs dig w) :
    Calls Tryz.prog 71 #[.pointer (some ⟨mb, 0, none⟩), x.val] w (StP B w mb M vw av ((q.mc vw av).ms pc tv lv M) (stepQ dig L al pc x q 9)) := by
  obtain ⟨a, b, c, -⟩ := fld_9 hx ho
  refine (join_rck dig x h.m a.1 (by omega) b.1 (by omega) c.1 (by omega) (hq.rg x.b).2 (hq.rg x.c).2 hd).mono ?_
  intro e w' h2
  exact stp_rck (joinP_er _ _ _) h2
theorem step_10 (ho : x.op = 10) (hx : insErr x ar bh = 0) (h : MV w B mb ((q.mc vw av).ms pc tv lv M) q.td q.lk M q.l p L) :
    Calls Tryz.prog 72 #[.pointer (some ⟨mb, 0, none⟩), x.val] w (StP B w mb M vw av ((q.mc vw av).ms pc tv lv M) (stepQ dig L al pc x q 10)) := by
  obtain ⟨b, c, n, -⟩ := fld_10 hx ho
  rw [stepQ_10]
  refine (need_any x h.m b.1 (by omega) c.1 (by omega) (qHolds q x) rfl).mono ?_
  intro e w' h2
  by_cases hh : qHolds q x = true
  · rw [if_pos hh] at h2 ⊢
    exact stp_did (q := q) (pc := pc) (c' := q) ⟨tv, rfl⟩ rfl rfl rfl h2
  · rw [if_neg hh] at h2 ⊢
    exact stp_gave (by decide) h2
theorem step_11 (ho : x.op = 11) (hx : insErr x ar bh = 0) (h : MV w B mb ((q.mc vw av).ms pc tv lv M) q.td q.lk M q.l p L) (p0 : 0 ≤ pc) (p1 : pc ≤ 1000) (hb : bh ≤ 1000) :
    Calls Tryz.prog 73 #[.pointer (some ⟨mb, 0, none⟩), x.val] w (StP B w mb M vw av ((q.mc vw av).ms pc tv lv M) (stepQ dig L al pc x q 11)) := by
  obtain ⟨a, b, c, n, -⟩ := fld_11 hx ho
  refine (skip_any x h.m b.1 (by omega) c.1 (by omega) p0 (show pc ≤ 100000 by omega) (by omega) (by omega) (qHolds q x) rfl).mono ?_
  intro e w' h2
  exact stp_did (q := q) (pc := pc) (c' := q) ⟨tv, rfl⟩ rfl rfl rfl h2
theorem step_12 (ho : x.op = 12) (hx : insErr x ar bh = 0) (h : MV w B mb ((q.mc vw av).ms pc tv lv M) q.td q.lk M q.l p L) (hl : q.lk.length ≤ 999) :
    Calls Tryz.prog 74 #[.pointer (some ⟨mb, 0, none⟩), x.val] w (StP B w mb M vw av ((q.mc vw av).ms pc tv lv M) (stepQ dig L al pc x q 12)) := by
  obtain ⟨a, b, c, n, -⟩ := fld_12 hx ho
  show Calls _ _ _ _ (StP B w mb M vw av ((q.mc vw av).ms pc tv lv M) (qThr q pc x (sumR L q.l x (q.rg x.b) (q.rg x.c))))
  by_cases hB : bErr (q.rg x.b) = 0
  · by_cases hC : bErr (q.rg x.c) = 0
    · by_cases hn : qNone q x
      · refine (opsum_none x h.m a.1 (by omega) b.1 (by omega) c.1 (by omega) hB hC hn.1 hn.2).mono ?_
        intro e w' h2
        unfold qThr
        rw [if_pos hB, if_pos hC, if_pos hn]
        exact stp_did (q := q) (pc := pc) (c' := q.put x.a ⟨1, 0, emp⟩) ⟨tv, rfl⟩ rfl rfl rfl h2
      · have hgo : bKey (q.rg x.c) = emp ∨ kl (bKey (q.rg x.c)) (bKey (q.rg x.b)) = false := by
          by_cases e : bKey (q.rg x.c) = emp
          · exact .inl e
          · refine .inr ?_
            cases hk : kl (bKey (q.rg x.c)) (bKey (q.rg x.b))
            · rfl
            · exact absurd ⟨e, hk⟩ hn
        refine (opsum_any x h a.1 (by omega) b.1 (by omega) c.1 (by omega) n.1 n.2 hB hC hgo hl).mono ?_
        intro e w' h2
        exact stp_thr (thr_er_sum _ _ _ _ _) hB hC hn h2
    · refine (opsum_nc x h.m a.1 (by omega) b.1 (by omega) c.1 (by omega) hB hC).mono ?_
      intro e w' h2
      unfold qThr
      rw [if_pos hB, if_neg hC]
      exact stp_gave (stE_ne (bErr_er hC)) h2
  · refine (opsum_nb x h.m a.1 (by omega) b.1 (by omega) hB).mono ?_
    intro e w' h2
    unfold qThr
    rw [if_neg hB]
    exact stp_gave (stE_ne (bErr_er hB)) h2
theorem step_13 (ho : x.op = 13) (hx : insErr x ar bh = 0) (h : MV w B mb ((q.mc vw av).ms pc tv lv M) q.td q.lk M q.l p L) (hl : q.lk.length ≤ 999) :
    Calls Tryz.prog 75 #[.pointer (some ⟨mb, 0, none⟩), x.val] w (StP B w mb M vw av ((q.mc vw av).ms pc tv lv M) (stepQ dig L al pc x q 13)) := by
  obtain ⟨a, b, c, n, -⟩ := fld_13 hx ho
  show Calls _ _ _ _ (StP B w mb M vw av ((q.mc vw av).ms pc tv lv M) (qThr q pc x (countR L q.l x (q.rg x.b) (q.rg x.c))))
  by_cases hB : bErr (q.rg x.b) = 0
  · by_cases hC : bErr (q.rg x.c) = 0
    · by_cases hn : qNone q x
      · refine (opcount_none x h.m a.1 (by omega) b.1 (by omega) c.1 (by omega) hB hC hn.1 hn.2).mono ?_
        intro e w' h2
        unfold qThr
        rw [if_pos hB, if_pos hC, if_pos hn]
        exact stp_did (q := q) (pc := pc) (c' := q.put x.a ⟨1, 0, emp⟩) ⟨tv, rfl⟩ rfl rfl rfl h2
      · have hgo : bKey (q.rg x.c) = emp ∨ kl (bKey (q.rg x.c)) (bKey (q.rg x.b)) = false := by
          by_cases e : bKey (q.rg x.c) = emp
          · exact .inl e
          · refine .inr ?_
            cases hk : kl (bKey (q.rg x.c)) (bKey (q.rg x.b))
            · rfl
            · exact absurd ⟨e, hk⟩ hn
        refine (opcount_any x h a.1 (by omega) b.1 (by omega) c.1 (by omega) n.1 n.2 hB hC hgo hl).mono ?_
        intro e w' h2
        exact stp_thr (thr_er_cnt _ _ _ _ _) hB hC hn h2
    · refine (opcount_nc x h.m a.1 (by omega) b.1 (by omega) c.1 (by omega) hB hC).mono ?_
      intro e w' h2
      unfold qThr
      rw [if_pos hB, if_neg hC]
      exact stp_gave (stE_ne (bErr_er hC)) h2
  · refine (opcount_nb x h.m a.1 (by omega) b.1 (by omega) hB).mono ?_
    intro e w' h2
    unfold qThr
    rw [if_neg hB]
    exact stp_gave (stE_ne (bErr_er hB)) h2
theorem step_14 (ho : x.op = 14) (hx : insErr x ar bh = 0) (h : MV w B mb ((q.mc vw av).ms pc tv lv M) q.td q.lk M q.l p L) (hl : q.lk.length ≤ 999) :
    Calls Tryz.prog 76 #[.pointer (some ⟨mb, 0, none⟩), x.val] w (StP B w mb M vw av ((q.mc vw av).ms pc tv lv M) (stepQ dig L al pc x q 14)) := by
  obtain ⟨a, b, -⟩ := fld_14 hx ho
  rw [stepQ_14]
  by_cases hB : bErr (q.rg x.b) = 0
  · rw [if_pos hB]
    unfold nfrom nextV
    obtain ⟨ab, hab⟩ : ∃ ab, bKey (q.rg x.b) = ab := ⟨_, rfl⟩
    obtain ⟨key, hkey⟩ : ∃ key, abv L q.l emp ab = key := ⟨_, rfl⟩
    by_cases h1 : ab = emp
    · by_cases h2 : key = emp
      · refine (opnext_00 x ab key h a.1 (by omega) b.1 (by omega) hB hab hkey h1 h2 hl).mono ?_
        intro e w' hh
        rw [hab, hkey, if_pos h1, if_pos h2]
        exact stp_dup (c' := (q.look emp key).put x.a z0) (fun _ => rfl) rfl rfl rfl hh
      · refine (opnext_01 x ab key h a.1 (by omega) b.1 (by omega) hB hab hkey h1 h2 hl).mono ?_
        intro e w' hh
        rw [hab, hkey, if_pos h1, if_neg h2]
        exact stp_dup (c' := (q.look emp key).put x.a ⟨2, 0, key⟩) (fun _ => rfl) rfl rfl rfl hh
    · by_cases h2 : key = emp
      · refine (opnext_10 x ab key h a.1 (by omega) b.1 (by omega) hB hab hkey h1 h2 hl).mono ?_
        intro e w' hh
        rw [hab, hkey, if_neg h1, if_pos h2]
        exact stp_dup (c' := (q.look (V.bhd ab) key).put x.a z0) (fun _ => rfl) rfl rfl rfl hh
      · refine (opnext_11 x ab key h a.1 (by omega) b.1 (by omega) hB hab hkey h1 h2 hl).mono ?_
        intro e w' hh
        rw [hab, hkey, if_neg h1, if_neg h2]
        exact stp_dup (c' := (q.look (V.bhd ab) key).put x.a ⟨2, 0, key⟩) (fun _ => rfl) rfl rfl rfl hh
  · rw [if_neg hB]
    refine (opnext_nb x h.m b.1 (by omega) hB).mono ?_
    intro e w' h2
    exact stp_gave (stE_ne (bErr_er hB)) h2
theorem step_15 (ho : x.op = 15) (hx : insErr x ar bh = 0) (h : MV w B mb ((q.mc vw av).ms pc tv lv M) q.td q.lk M q.l p L) (hq : QOk q) (ht : q.td.length ≤ 64) :
    Calls Tryz.prog 77 #[.pointer (some ⟨mb, 0, none⟩), x.val] w (StP B w mb M vw av ((q.mc vw av).ms pc tv lv M) (stepQ dig L al pc x q 15)) := by
  obtain ⟨a, -⟩ := fld_15 hx ho
  show Calls _ _ _ _ (StP B w mb M vw av ((q.mc vw av).ms pc tv lv M) (if q.td.length = 64 then (q, pc, 5) else ({ q with td := q.td ++ [q.rg x.a] }, pc, 0)))
  by_cases h64 : q.td.length = 64
  · rw [if_pos h64]
    refine (tell_full x h.m h64).mono ?_
    intro e w' h2
    exact stp_gave (by decide) h2
  · rw [if_neg h64]
    refine (tell_m x h.m a.1 (by omega) (by omega) (by have := vok_size (hq.rg x.a); show (q.rg x.a).t.size ≤ _; omega)).mono ?_
    rintro e w' ⟨v', h2⟩
    exact stp_did (q := q) (pc := pc) (c' := { q with td := q.td ++ [q.rg x.a] }) ⟨v', rfl⟩ rfl rfl rfl h2
theorem step_any (o : Nat) (h1 : 1 ≤ o) (h2 : o ≤ 15) (ho : x.op = o) (hx : insErr x ar bh = 0) (h : MV w B mb ((q.mc vw av).ms pc tv lv M) q.td q.lk M q.l p L) (hq : QOk q) (har : ar = al.length) (hal : al.length ≤ 16) (ha : Va w av al) (hl : q.lk.length ≤ 999) (ht : q.td.length ≤ 64) (p0 : 0 ≤ pc) (p1 : pc ≤ 1000) (hb : bh ≤ 1000) (hd : Digs dig w) :
    Calls Tryz.prog (62 + o) #[.pointer (some ⟨mb, 0, none⟩), x.val] w (StP B w mb M vw av ((q.mc vw av).ms pc tv lv M) (stepQ dig L al pc x q o)) := by
  rcases (by omega : o = 1 ∨ o = 2 ∨ o = 3 ∨ o = 4 ∨ o = 5 ∨ o = 6 ∨ o = 7 ∨ o = 8 ∨ o = 9 ∨ o = 10 ∨ o = 11 ∨ o = 12 ∨ o = 13 ∨ o = 14 ∨ o = 15) with rfl | rfl | rfl | rfl | rfl | rfl | rfl | rfl | rfl | rfl | rfl | rfl | rfl | rfl | rfl
  · exact step_1 ho hx h
  · exact step_2 ho hx h har hal ha
  · exact step_3 ho hx h hl
  · exact step_4 ho hx h
  · exact step_5 ho hx h
  · exact step_6 ho hx h hq
  · exact step_7 ho hx h hq
  · exact step_8 ho hx h hq
  · exact step_9 ho hx h hq hd
  · exact step_10 ho hx h
  · exact step_11 ho hx h p0 p1 hb
  · exact step_12 ho hx h hl
  · exact step_13 ho hx h hl
  · exact step_14 ho hx h hl
  · exact step_15 ho hx h hq ht
end
theorem vok_int {v : Int} (h : inR v = true) : vok ⟨1, v, emp⟩ := ⟨rfl, h⟩
theorem vok_text {t : ByteArray} (h : t.size ≤ 256) : vok ⟨2, 0, t⟩ := by
  refine ⟨?_, rfl⟩
  show chk 2 0 t = 0
  unfold chk
  rw [if_neg (by decide), if_pos rfl, if_pos rfl, if_neg (by omega)]
theorem rckP_vok (a b : Bool) (v : Int) : vok (rckP a b v).1 := by
  unfold rckP
  split
  · split
    · exact vok_int (by assumption)
    · exact vok_z0
  · exact vok_z0
theorem joinP_vok (dig : Int → List Int) (a b : Vd) : vok (joinP dig a b).1 := by
  unfold joinP
  cases txt dig a.k a.i a.t with
  | none => exact vok_z0
  | some x =>
    cases txt dig b.k b.i b.t with
    | none => exact vok_z0
    | some y =>
      dsimp only
      split
      · exact vok_text (by rw [mkStr_size]; assumption)
      · exact vok_z0
theorem thr_inv {α : Type} {nx : ByteArray → ByteArray} {f : α → ByteArray → α × Int} {to : ByteArray} {P : α → Prop} (hf : ∀ a k, P a → P (f a k).1) : ∀ (m : Nat) (k : ByteArray) (a : α), P a → P (thr nx f to m k a).1
  | 0, _, _, h => h
  | m + 1, k, a, h => by
    unfold thr
    split
    · exact h
    · split
      · exact hf a k h
      · exact thr_inv hf m _ _ (hf a k h)
theorem thr_last {α : Type} {nx : ByteArray → ByteArray} {f : α → ByteArray → α × Int} {to : ByteArray} {C : ByteArray → Prop} (hn : ∀ k, C k → nx k = emp ∨ C (nx k)) : ∀ (m : Nat) (k : ByteArray) (a : α), (k = emp ∨ C k) → (thr nx f to m k a).2.2 = to ∨ C (thr nx f to m k a).2.2
  | 0, _, _, _ => .inl rfl
  | m + 1, k, a, h => by
    unfold thr
    by_cases e : k = emp
    · rw [if_pos e]; exact .inl rfl
    · rw [if_neg e]
      split
      · exact .inr (h.resolve_left e)
      · exact thr_last hn m _ _ (hn k (h.resolve_left e))
theorem sumR_vok (L l : KV) (x : Ins) (rb rc : Vd) : vok (sumR L l x rb rc).1 := thr_inv (P := vok) (fun _ _ _ => rckP_vok _ _ _) _ _ _ (vok_int rfl)
theorem wrap64_in (z : Int) : inR (wrap64 z) = true := by
  unfold inR wrap64
  rw [decide_eq_true_eq]
  omega
theorem countR_vok (L l : KV) (x : Ins) (rb rc : Vd) : vok (countR L l x rb rc).1 := by
  have h := thr_inv (nx := abv L l (bKey rc)) (f := cntF) (to := bKey rc) (P := fun a => a.k = 1 ∧ a.t = emp ∧ inR a.i = true) (fun a k h => ⟨h.1, h.2.1, wrap64_in _⟩) x.n.toNat (fkey (bKey rb) (seenF L l (bKey rb)) (abv L l (bKey rc))) ⟨1, 0, emp⟩ ⟨rfl, rfl, rfl⟩
  obtain ⟨h1, h2, h3⟩ := h
  have h4 : chk (thr (abv L l (bKey rc)) cntF (bKey rc) x.n.toNat (fkey (bKey rb) (seenF L l (bKey rb)) (abv L l (bKey rc))) (⟨1, 0, emp⟩ : Vd)).1.k (thr (abv L l (bKey rc)) cntF (bKey rc) x.n.toNat (fkey (bKey rb) (seenF L l (bKey rb)) (abv L l (bKey rc))) (⟨1, 0, emp⟩ : Vd)).1.i (thr (abv L l (bKey rc)) cntF (bKey rc) x.n.toNat (fkey (bKey rb) (seenF L l (bKey rb)) (abv L l (bKey rc))) (⟨1, 0, emp⟩ : Vd)).1.t = 0 := by
    rw [h1, h2]
    rfl
  exact ⟨h4, h3⟩
def lkOk (f t : ByteArray) : Prop := t = emp ∨ kl t f = false
theorem look_thr {L l : KV} {f : Vd → ByteArray → Vd × Int} {n : Nat} {rb rc : Vd} {a : Vd} (hgo : ¬ (bKey rc ≠ emp ∧ kl (bKey rc) (bKey rb) = true)) :
    lkOk (bKey rb) (thr (abv L l (bKey rc)) f (bKey rc) n (fkey (bKey rb) (seenF L l (bKey rb)) (abv L l (bKey rc))) a).2.2 := by
  have hC : ∀ k, kl k (bKey rb) = false → abv L l (bKey rc) k = emp ∨ kl (abv L l (bKey rc) k) (bKey rb) = false := by
    intro k hk
    rcases abv_cases L l (bKey rc) k with h | ⟨h, -⟩
    · exact .inl h
    · exact .inr (V.kl_asymm (V.kl_le' hk h.1))
  rcases thr_last (f := f) (to := bKey rc) (C := fun k => kl k (bKey rb) = false) hC n (fkey (bKey rb) (seenF L l (bKey rb)) (abv L l (bKey rc))) a (by
    unfold fkey
    split
    · exact .inr (V.kl_irrefl _)
    · exact hC _ (V.kl_irrefl _)) with h | h
  · rw [h]
    by_cases e : bKey rc = emp
    · exact .inl e
    · refine .inr ?_
      cases hk : kl (bKey rc) (bKey rb)
      · rfl
      · exact absurd ⟨e, hk⟩ hgo
  · exact .inr h
theorem look_next (L l : KV) (rb : Vd) : lkOk (nfrom (bKey rb)) (abv L l emp (bKey rb)) := by
  rcases abv_cases L l emp (bKey rb) with h | ⟨h, -⟩
  · exact .inl h
  · refine .inr ?_
    unfold nfrom
    split
    · exact kl_emp _
    · rw [V.kl_behind, h.1]
      rfl
theorem isKey_256 {t : ByteArray} (h : isKeyB t = true) : t.size ≤ 256 := by have := (isKey_size h).2; omega
theorem nextV_vok {L l : KV} (hL : VOk L) (hK : KOk l) (rb : Vd) : vok (nextV L l rb) := by
  unfold nextV
  split
  · exact vok_z0
  · rename_i h
    exact vok_text (isKey_256 ((abv_key hL hK emp (bKey rb)).resolve_left h))
structure SP (q : Qm) (pc bh : Int) (R : Qr) : Prop where
  ok : QOk R.1
  lk : R.1.lk = q.lk ∨ ∃ f t, R.1.lk = q.lk ++ [(f, t)] ∧ lkOk f t ∧ f.size ≤ 1000 ∧ t.size ≤ 1000
  ll : R.1.l.length ≤ q.l.length + 1
  td : R.1.td.length ≤ 64
  go : R.2.2 = 0 → pc ≤ R.2.1 ∧ R.2.1 ≤ pc + bh
  no : R.2.2 ≠ 0 → R.2.1 = pc
  st : R.2.2 = 0 ∨ R.2.2 = 2 ∨ R.2.2 = 3 ∨ R.2.2 = 4 ∨ R.2.2 = 5 ∨ R.2.2 = 6
section
variable {q : Qm} {pc bh : Int}
theorem QOk.put (h : QOk q) (r : Int) {v : Vd} (hv : vok v) : QOk (q.put r v) :=
  ⟨fun i => by
    show vok (if i = r then v else q.rg i)
    split
    · exact hv
    · exact h.rg i, h.kk, h.lv, h.td⟩
theorem QOk.look (h : QOk q) (f t : ByteArray) : QOk (q.look f t) := ⟨h.rg, h.kk, h.lv, h.td⟩
theorem sp_put (h : QOk q) (ht : q.td.length ≤ 64) (hb : 0 ≤ bh) (r : Int) {v : Vd} (hv : vok v) : SP q pc bh (q.put r v, pc, 0) :=
  ⟨h.put r hv, .inl rfl, Nat.le_succ _, ht, fun _ => ⟨Int.le_refl _, by dsimp only; omega⟩, fun e => absurd rfl e, .inl rfl⟩
theorem sp_no (h : QOk q) (ht : q.td.length ≤ 64) {st : Int} (hs : st = 2 ∨ st = 3 ∨ st = 4 ∨ st = 5 ∨ st = 6) : SP q pc bh (q, pc, st) :=
  ⟨h, .inl rfl, Nat.le_succ _, ht, fun e => by dsimp only at e; omega, fun _ => rfl, .inr hs⟩
theorem sp_lput (h : QOk q) (ht : q.td.length ≤ 64) (hb : 0 ≤ bh) (r : Int) {v : Vd} (hv : vok v) {f t : ByteArray} (hl : lkOk f t) (hf : f.size ≤ 1000) (htz : t.size ≤ 1000) : SP q pc bh ((q.look f t).put r v, pc, 0) :=
  ⟨(h.look f t).put r hv, .inr ⟨f, t, rfl, hl, hf, htz⟩, Nat.le_succ _, ht, fun _ => ⟨Int.le_refl _, by dsimp only; omega⟩, fun e => absurd rfl e, .inl rfl⟩
theorem sp_lno (h : QOk q) (ht : q.td.length ≤ 64) {st : Int} (hs : st = 2 ∨ st = 3 ∨ st = 4 ∨ st = 5 ∨ st = 6) {f t : ByteArray} (hl : lkOk f t) (hf : f.size ≤ 1000) (htz : t.size ≤ 1000) : SP q pc bh (q.look f t, pc, st) :=
  ⟨h.look f t, .inr ⟨f, t, rfl, hl, hf, htz⟩, Nat.le_succ _, ht, fun e => by dsimp only at e; omega, fun _ => rfl, .inr hs⟩
theorem sp_same (h : QOk q) (ht : q.td.length ≤ 64) {pc' : Int} (h1 : pc ≤ pc') (h2 : pc' ≤ pc + bh) : SP q pc bh (q, pc', 0) :=
  ⟨h, .inl rfl, Nat.le_succ _, ht, fun _ => ⟨h1, h2⟩, fun e => absurd rfl e, .inl rfl⟩
theorem sp_set (h : QOk q) (ht : q.td.length ≤ 64) (hb : 0 ≤ bh) {key : ByteArray} {v : Vd} (hk : isKeyB key = true) (hv : vok v) : SP q pc bh ({ q with l := kset key v q.l }, pc, 0) := by
  have hm : ∀ x ∈ kset key v q.l, x = (key, v) ∨ x ∈ q.l := by
    have : ∀ (l : KV), ∀ x ∈ kset key v l, x = (key, v) ∨ x ∈ l := by
      intro l
      induction l with
      | nil => intro x hx; unfold kset at hx; exact .inl (List.mem_singleton.1 hx)
      | cons y l ih =>
        intro x hx
        unfold kset at hx
        split at hx
        · rcases List.mem_cons.1 hx with e | e
          · exact .inl e
          · exact .inr (List.mem_cons_of_mem _ e)
        · rcases List.mem_cons.1 hx with e | e
          · exact .inr (by rw [e]; exact List.mem_cons_self)
          · rcases ih x e with e | e
            · exact .inl e
            · exact .inr (List.mem_cons_of_mem _ e)
    exact this q.l
  refine ⟨⟨h.rg, fun x hx => ?_, fun x hx => ?_, h.td⟩, .inl rfl, kset_len _ _ _, ht, fun _ => ⟨Int.le_refl _, by dsimp only; omega⟩, fun e => absurd rfl e, .inl rfl⟩
  · rcases hm x hx with e | e
    · rw [e]; exact hk
    · exact h.kk x e
  · rcases hm x hx with e | e
    · rw [e]; exact hv
    · exact h.lv x e
theorem stE_six {e : Int} (h : isErr e) : stE e = 2 ∨ stE e = 3 ∨ stE e = 4 ∨ stE e = 5 ∨ stE e = 6 := by
  rcases h with rfl | rfl | rfl | rfl <;> decide
theorem sp_rck (h : QOk q) (ht : q.td.length ≤ 64) (hb : 0 ≤ bh) (a : Int) {R : Vd × Int} (hR : R.2 = 0 ∨ isErr R.2) (hv : vok R.1) : SP q pc bh (qRck q pc a R) := by
  unfold qRck
  split
  · exact sp_put h ht hb a hv
  · rename_i e
    exact sp_no h ht (stE_six (hR.resolve_left e))
theorem sp_thr (h : QOk q) (ht : q.td.length ≤ 64) (hb : 0 ≤ bh) (x : Ins) {R : Vd × Int × ByteArray} (hR : R.2.1 = 0 ∨ isErr R.2.1) (hv : vok R.1) (hl : ¬ qNone q x → lkOk (bKey (q.rg x.b)) R.2.2) (hz : bErr (q.rg x.c) = 0 → R.2.2.size ≤ 64) : SP q pc bh (qThr q pc x R) := by
  unfold qThr
  split
  · rename_i hB
    split
    · rename_i hC
      have h1 := bKey_size hB
      have h2 := hz hC
      split
      · exact sp_put h ht hb _ (vok_int rfl)
      · rename_i hn
        split
        · exact sp_lput h ht hb _ hv (hl hn) (by omega) (by omega)
        · rename_i e
          exact sp_lno h ht (stE_six (hR.resolve_left e)) (hl hn) (by omega) (by omega)
    · rename_i hC
      exact sp_no h ht (stE_six (bErr_er hC))
  · rename_i hB
    exact sp_no h ht (stE_six (bErr_er hB))
theorem abv_size {L l : KV} (hL : VOk L) (hK : KOk l) (to text : ByteArray) : (abv L l to text).size ≤ 64 := by
  rcases abv_key hL hK to text with h | h
  · rw [h]; exact Nat.zero_le _
  · exact (isKey_size h).2
theorem thr_size2 {L l : KV} (hL : VOk L) (hK : KOk l) {f : Vd → ByteArray → Vd × Int} {n : Nat} {rb rc a : Vd} (hB : bErr rb = 0) (hC : bErr rc = 0) : (thr (abv L l (bKey rc)) f (bKey rc) n (fkey (bKey rb) (seenF L l (bKey rb)) (abv L l (bKey rc))) a).2.2.size ≤ 64 := by
  refine thr_size (abv_key hL hK _) (bKey_size hC) _ _ _ ?_
  unfold fkey
  split
  · rename_i h
    exact .inr ((bKey_ok hB).resolve_left h.1)
  · exact abv_key hL hK _ _
theorem nfrom_size {rb : Vd} (hB : bErr rb = 0) : (nfrom (bKey rb)).size ≤ 1000 := by
  have := bKey_size hB
  unfold nfrom
  split
  · exact Nat.zero_le _
  · rw [V.bhd_size]; omega
theorem sp_any {dig : Int → List Int} {L : KV} {al : List Vd} {x : Ins} {ar : Int} (hL : LOk L) (hal : ∀ v ∈ al, vok v) (h : QOk q) (ht : q.td.length ≤ 64) (hb : 0 ≤ bh) (o : Nat) (h1 : 1 ≤ o) (h2 : o ≤ 15) (ho : x.op = o) (hx : insErr x ar bh = 0) (hxi : inR x.i = true) :
    SP q pc bh (stepQ dig L al pc x q o) := by
  rcases (by omega : o = 1 ∨ o = 2 ∨ o = 3 ∨ o = 4 ∨ o = 5 ∨ o = 6 ∨ o = 7 ∨ o = 8 ∨ o = 9 ∨ o = 10 ∨ o = 11 ∨ o = 12 ∨ o = 13 ∨ o = 14 ∨ o = 15) with rfl | rfl | rfl | rfl | rfl | rfl | rfl | rfl | rfl | rfl | rfl | rfl | rfl | rfl | rfl
  · exact sp_put h ht hb _ ⟨(fld_1 hx ho).2, hxi⟩
  · refine sp_put h ht hb _ ?_
    rw [List.getD_eq_getElem?_getD]
    cases e : al[x.n.toNat]? with
    | none => exact vok_z0
    | some v => exact hal v (List.mem_of_getElem? e)
  · rw [stepQ_3]
    split
    · rename_i hk
      have hz := isKey_256 (kErr_ok hk).2.2.2
      split
      · rename_i v hv
        exact sp_put h ht hb _ (h.lv _ (lkp_mem2 hv))
      · exact sp_lput h ht hb _ (seen_vok hL.ok h.lv _) (.inr (V.kl_irrefl _)) (by omega) (by omega)
    · rename_i hk
      exact sp_no h ht (stE_six (kErr_no hk))
  · rw [stepQ_4]
    split
    · rename_i hk
      exact sp_set h ht hb (kErr_ok hk).2.2.2 (h.rg _)
    · rename_i hk
      exact sp_no h ht (stE_six (kErr_no hk))
  · rw [stepQ_5]
    split
    · rename_i hk
      exact sp_set h ht hb (kErr_ok hk).2.2.2 vok_z0
    · rename_i hk
      exact sp_no h ht (stE_six (kErr_no hk))
  · exact sp_rck h ht hb _ (rckP_er _ _ _) (rckP_vok _ _ _)
  · exact sp_rck h ht hb _ (rckP_er _ _ _) (rckP_vok _ _ _)
  · exact sp_rck h ht hb _ (rckP_er _ _ _) (rckP_vok _ _ _)
  · exact sp_rck h ht hb _ (joinP_er _ _ _) (joinP_vok _ _ _)
  · rw [stepQ_10]
    by_cases hh : qHolds q x = true
    · rw [if_pos hh]
      exact sp_same h ht (Int.le_refl _) (by omega)
    · rw [if_neg hh]
      exact sp_no h ht (.inl rfl)
  · obtain ⟨a, -⟩ := fld_11 hx ho
    rw [stepQ_11]
    refine sp_same h ht ?_ ?_
    · split <;> omega
    · split <;> omega
  · have hz := fun hB : bErr (q.rg x.b) = 0 => fun hC : bErr (q.rg x.c) = 0 => thr_size2 (f := sumF L q.l) (n := x.n.toNat) (a := ⟨1, 0, emp⟩) hL.v h.kk hB hC
    show SP q pc bh (qThr q pc x (sumR L q.l x (q.rg x.b) (q.rg x.c)))
    by_cases hB : bErr (q.rg x.b) = 0
    · exact sp_thr h ht hb x (thr_er_sum _ _ _ _ _) (sumR_vok _ _ _ _ _) (fun hn => look_thr hn) (hz hB)
    · unfold qThr
      rw [if_neg hB]
      exact sp_no h ht (stE_six (bErr_er hB))
  · have hz := fun hB : bErr (q.rg x.b) = 0 => fun hC : bErr (q.rg x.c) = 0 => thr_size2 (f := cntF) (n := x.n.toNat) (a := ⟨1, 0, emp⟩) hL.v h.kk hB hC
    show SP q pc bh (qThr q pc x (countR L q.l x (q.rg x.b) (q.rg x.c)))
    by_cases hB : bErr (q.rg x.b) = 0
    · exact sp_thr h ht hb x (thr_er_cnt _ _ _ _ _) (countR_vok _ _ _ _ _) (fun hn => look_thr hn) (hz hB)
    · unfold qThr
      rw [if_neg hB]
      exact sp_no h ht (stE_six (bErr_er hB))
  · rw [stepQ_14]
    split
    · rename_i hB
      have h3 := abv_size hL.v h.kk emp (bKey (q.rg x.b))
      exact sp_lput h ht hb _ (nextV_vok hL.v h.kk _) (look_next _ _ _) (nfrom_size hB) (by omega)
    · rename_i hB
      exact sp_no h ht (stE_six (bErr_er hB))
  · show SP q pc bh (if q.td.length = 64 then (q, pc, 5) else ({ q with td := q.td ++ [q.rg x.a] }, pc, 0))
    split
    · exact sp_no h ht (.inr (.inr (.inr (.inl rfl))))
    · rename_i hn
      refine ⟨⟨h.rg, h.kk, h.lv, fun v hv => ?_⟩, .inl rfl, Nat.le_succ _, ?_, fun _ => ⟨Int.le_refl _, by dsimp only; omega⟩, fun e => absurd rfl e, .inl rfl⟩
      · rcases List.mem_append.1 hv with e | e
        · exact h.td v e
        · rw [List.mem_singleton.1 e]; exact h.rg _
      · show (q.td ++ [q.rg x.a]).length ≤ 64
        rw [List.length_append]
        show q.td.length + 1 ≤ 64
        omega
end
end Go.Proofs.YthcoigbkdbkojabGreat
namespace Go.Proofs.YthcoigbkdbkojabGreat
open Go.RowKit Go.MapKept
set_option maxHeartbeats 3200000 in
theorem catch_idle (p q : Addr) (w : World) :
    CallsD Tryz.prog 41 #[.pointer (some p), .pointer (some q)] .returning w fun e u' w' => e = .returned (.tuple #[]) ∧ u' = .returning ∧ w' = w := by
  have h1 := eqNil
  refine callsD_of_wpS Tryz.func41 rfl fun c₀ cs hu => ?_
  apply wpS_seq
  apply wpS_region
  simp [wpOpsS, go_sem, recoverD, hu, Tryz.ntmps41, Exit.thenS]
  refine wpS_of_wp ?_
  have hT : (#[Value.pointer (some p), Value.pointer (some q)] ++ (Array.replicate 21 undef).setIfInBounds 3 Value.nilIface) = #[Value.pointer (some p), Value.pointer (some q), undef, undef, undef, Value.nilIface, undef, undef, undef, undef, undef, undef, undef, undef, undef, undef, undef, undef, undef, undef, undef, undef, undef] := by kernel_rfl
  rw [hT]
  clear hT
  refine Code.wp_mono NoPanic.imp ?_
  go_wp2
  refine NoPanic.normal ?_
  exact ⟨rfl, _, rfl, .tuple #[], by simp [results, Tryz.results41], rfl, hu, rfl⟩
end Go.Proofs.YthcoigbkdbkojabGreat
