import Derived.Test.YthjggbcppgbdoabK18
import Derived.Test.YthjggbcppgbdoabK11
import Derived.SizedLaws
namespace Go.Proofs.Ythjggbcppgbdoab.V
open Go.RowKit

attribute [local go_sem] Oper.semAt_some

/-- A slot that is marked: the copy that is not read is the one that is written. -/
def Sd.mk' (s : Sd) : Sd := ⟨s.c0, s.c1, s.h0, s.h1, s.r, !s.r⟩

theorem set_w {w : World} {r : Nat} {a b c d e f g i j k : Value} {t : TypeId} (h : w.heap[r]? = some (.cells #[a, b, c, d, e, f, g, i, j, k] t (0, 0))) (x : Value) :
    (w.setCell ⟨r, 9, none⟩ x).heap[r]? = some (.cells #[a, b, c, d, e, f, g, i, j, x] t (0, 0)) := by
  simp [World.setCell, Array.getElem?_modify, h]
theorem set_mk {w : World} {b : Nat} {s : Sd} (h : Sl w b s) : Sl (w.setCell ⟨b, 9, none⟩ (.int .i64 (bit (!s.r)))) b s.mk' := by
  obtain ⟨c0, c1, h0, h1, r, wb⟩ := s
  exact (set_w h _).trans rfl

theorem nd_inj : ∀ {l : List En}, (l.map (fun e => e.2.2)).Nodup → ∀ a ∈ l, ∀ b ∈ l, a.2.2 = b.2.2 → a = b
  | [], _, _, h, _, _, _ => by cases h
  | c :: l, hn, a, ha, b, hb, e => by
    rw [List.map_cons, List.nodup_cons] at hn
    rcases List.mem_cons.1 ha with h1 | h1 <;> rcases List.mem_cons.1 hb with h2 | h2
    · rw [h1, h2]
    · subst h1
      exact absurd (List.mem_map.2 ⟨b, h2, e.symm⟩) hn.1
    · subst h2
      exact absurd (List.mem_map.2 ⟨a, h1, e⟩) hn.1
    · exact nd_inj hn.2 a h1 b h2 e

theorem cmg_same {st : Bool} {last : ByteArray} {l : List En} {b : Nat} {k : ByteArray} {v : Value} (hr : Rises l) (hq : nx st last l = some (b, k, v)) {e : En} (he : e ∈ l) (hn : e ≠ (b, k, v)) : cmg true k e = cmg st last e := by
  rw [nx_cmg] at hq
  obtain ⟨h1, h2, h3⟩ := find_first hr hq
  cases hc : cmg st last e
  · cases hk : cmg true k e
    · rfl
    · rw [cmg_up (k := k) h2 hk] at hc
      cases hc
  · rcases h3 e he hc with h4 | h4
    · exact absurd h4 hn
    · exact h4

theorem ZS.mark {w : World} {p : Nat} {t : Tr} {f : Nat → Sd} {c : Int} {m : Bool} (h : ZS w p t f c m) (m' : Bool) : ZS (w.setCell ⟨p, 3, none⟩ (.bool m')) p t f c m' := by
  have K : Kept (fun j => j = p) w (w.setCell ⟨p, 3, none⟩ (.bool m')) := (Kept.refl (fun j => j = p) w).setCell (p := ⟨p, 3, none⟩) (fun _ => rfl) _
  refine ⟨⟨set_block (i := 3) h.tb.blk _, h.tb.at_.kept K (fun i hi e => h.tb.apart (e ▸ hi)), h.tb.rs, h.tb.nd⟩, fun e he => ?_, h.nd, h.sh⟩
  obtain ⟨b, h1, h2⟩ := h.sl e he
  exact ⟨b, h1, hp_set h2 (tb_not h.tb h2 (by decide)).1 _⟩

/-- A block that is no cells is put. -/
theorem ZS.puto {w : World} {p : Nat} {t : Tr} {f : Nat → Sd} {c : Int} {m : Bool} (h : ZS w p t f c m) {D : Nat} {ob : Obj} (hD : w.heap[D]? = some ob) (hc : ob.isCells = false) (o' : Obj) : ZS (w.putObj D o') p t f c m := by
  have nc : ∀ j cs ty, w.heap[j]? = some (.cells cs ty (0, 0)) → ¬ j = D := fun j cs ty hj e => by
    subst e
    rw [hj] at hD
    cases hD
    cases hc
  refine h.kept (kept_put _ D o') (nc _ _ _ h.tb.blk) ?_ ?_
  · intro i hi
    obtain ⟨kk, vv, hm⟩ := bs_mem hi
    obtain ⟨a1, a2, a3, a4⟩ := h.tb.at_.mem i kk vv hm
    exact nc _ _ _ a4
  · intro e he
    obtain ⟨b1, q1, q2⟩ := h.sl e he
    rw [q1]
    exact nc _ _ _ q2

/-- Between two rounds of Mark's loop. -/
def MI (w1 : World) (p : Nat) (t : Tr) (f : Nat → Sd) (c : Int) : Nat → Nat → Nat → Nat → Bool → ByteArray → Tr → World → Prop :=
  fun gf gl gt mm st last t' W => t' = t ∧ (∃ f', ZS W p t f' c false ∧ ∀ e ∈ t.toL, f' (bk e.2.2) = if cmg st last e then f (bk e.2.2) else (f (bk e.2.2)).mk') ∧ Kept (fun j => ∃ e ∈ t.toL, j = bk e.2.2) w1 W ∧ (w1.heap.size ≤ gf ∧ w1.heap.size ≤ gl ∧ w1.heap.size ≤ gt) ∧ mm = ahd st last t.toL

theorem it_kept {w w' : World} {g1 g2 g3 : Nat} {o : Option Addr} {frm to : ByteArray} {S : Nat → Prop} (h : It w g1 g2 g3 o frm to) (hk : Kept S w w') (h1 : ¬ S g1) (h2 : ¬ S g2) (h3 : ¬ S g3) : It w' g1 g2 g3 o frm to :=
  ⟨hp_kept h.t hk h1, hp_kept h.f hk h2, hp_kept h.e hk h3⟩

theorem it_slot {w : World} {g1 g2 g3 : Nat} {o : Option Addr} {frm to : ByteArray} {p : Nat} {t : Tr} {f : Nat → Sd} {c : Int} {m : Bool} (h : It w g1 g2 g3 o frm to) (hz : ZS w p t f c m) : ∀ e ∈ t.toL, bk e.2.2 ≠ g1 ∧ bk e.2.2 ≠ g2 ∧ bk e.2.2 ≠ g3 := by
  intro e he
  obtain ⟨b, q1, q2⟩ := hz.sl e he
  rw [q1]
  refine ⟨?_, ?_, ?_⟩
  · rintro rfl
    have := h.t
    have q3 : w.heap[b]? = _ := q2
    rw [show w.heap[bk (Value.pointer (some ⟨b, 0, none⟩))]? = _ from q3] at this
    cases this
  · rintro rfl
    have := h.f
    have q3 : w.heap[b]? = _ := q2
    rw [Bx, show w.heap[bk (Value.pointer (some ⟨b, 0, none⟩))]? = _ from q3] at this
    cases this
  · rintro rfl
    have := h.e
    have q3 : w.heap[b]? = _ := q2
    rw [Bx, show w.heap[bk (Value.pointer (some ⟨b, 0, none⟩))]? = _ from q3] at this
    cases this

theorem markI {w1 : World} {p g1 g2 g3 : Nat} {f : Nat → Sd} {frm to : ByteArray} {t : Tr} {c : Int} (hz : ZS w1 p t f c false) (hi : It w1 g1 g2 g3 (some ⟨p, 0, none⟩) frm to) :
    RangeI w1.heap.size (some ⟨p, 0, none⟩) frm to g1 g2 g3 (MI w1 p t f c) (fun _ => False) := by
  refine ⟨?_, ?_, ?_, fun h _ _ => h⟩
  · rintro gf gl gt mm st last t' W ⟨rfl, ⟨f', h1, -⟩, -⟩
    exact ⟨.inr ⟨p, _, rfl, h1.tb⟩, fun e he => h1.sh e he⟩
  · rintro gf gl gt mm st last t' W ⟨rfl, -, hk, -⟩
    have := it_slot hi hz
    exact it_kept hi hk (fun ⟨e, he, q⟩ => (this e he).1 q.symm) (fun ⟨e, he, q⟩ => (this e he).2.1 q.symm) (fun ⟨e, he, q⟩ => (this e he).2.2 q.symm)
  · rintro gf gl gt mm st last t' W W' S ⟨rfl, ⟨f', h1, h2⟩, hk, hg, hm⟩ hk' hS
    have hS' : ∀ k, S k → w1.heap.size ≤ k := fun k hs => by
      rcases hS k hs with e | e | e | ⟨e, -⟩ <;> omega
    exact ⟨rfl, ⟨f', h1.far hz hk' hS', h2⟩, hk.trans hk' (fun i hi hs => by have := hS' i hs; omega), hg, hm⟩

theorem kl_empty (k : ByteArray) : kl k ⟨#[]⟩ = false := by
  unfold kl
  rw [show (⟨#[]⟩ : ByteArray).toList = [] by simp [Lib.toList_data]]
  cases k.toList <;> rfl

/-- A round of Mark's loop. -/
theorem mark_on {w1 W : World} {p : Nat} {t : Tr} {f : Nat → Sd} {c : Int} {gf gl gt : Nat} {st : Bool} {last : ByteArray} {b sb : Nat} {k : ByteArray} (h : MI w1 p t f c gf gl gt (ahd st last t.toL) st last t W) (hz : ZS w1 p t f c false) (hq : nx st last t.toL = some (b, k, .pointer (some ⟨sb, 0, none⟩))) :
    Sl W sb (f sb) ∧ RangePost w1.heap.size gf gl gt (ahd st last t.toL) k (MI w1 p t f c) (fun _ => False) W .normal { tmps := #[], defers := [] } (W.setCell ⟨sb, 9, none⟩ (.int .i64 (bit (!(f sb).r)))) := by
  obtain ⟨-, ⟨f', h1, h2⟩, hk, hg, -⟩ := h
  have hm := nx_mem hq
  have hc : cmg st last (b, k, Value.pointer (some ⟨sb, 0, none⟩)) = true := by
    have := hq
    rw [nx_cmg] at this
    exact List.find?_some this
  obtain ⟨b0, q1, q2⟩ := h1.sl _ hm
  have e0 : b0 = sb := by injection q1 with q1; injection q1 with q1; injection q1 with q1; exact q1.symm
  subst e0
  have e1 : f' b0 = f b0 := by
    have := h2 _ hm
    rw [hc] at this
    exact this
  rw [e1] at q2
  have lt := (hz.lt).2.2 _ hm
  have lt' : b0 < w1.heap.size := lt
  have hs : Sl (W.setCell ⟨b0, 9, none⟩ (.int .i64 (bit (!(f b0).r)))) b0 (f b0).mk' := set_mk q2
  have hk1 : Kept (fun j => j = b0) W (W.setCell ⟨b0, 9, none⟩ (.int .i64 (bit (!(f b0).r)))) := (Kept.refl (fun j => j = b0) W).setCell (p := ⟨b0, 9, none⟩) (fun _ => rfl) _
  refine ⟨q2, (KeepsOthers.setCell _ _ _).from _, ⟨?_, ?_, ?_⟩, ahd true k t.toL, t, ahd_less hq, rfl, ⟨updF f' b0 (f b0).mk', h1.lay hm rfl hs hk1, ?_⟩, ?_, hg, rfl⟩
  · exact Below.heap_setCell _ _ _ _ (show gf ≠ b0 by omega)
  · exact Below.heap_setCell _ _ _ _ (show gl ≠ b0 by omega)
  · exact Below.heap_setCell _ _ _ _ (show gt ≠ b0 by omega)
  · intro e he
    by_cases hb : e = (b, k, Value.pointer (some ⟨b0, 0, none⟩))
    · subst hb
      have : cmg true k (b, k, Value.pointer (some ⟨b0, 0, none⟩)) = false := kl_irrefl k
      rw [this]
      show updF f' b0 _ b0 = _
      unfold updF
      rw [if_pos rfl]
      rfl
    · have hne : bk e.2.2 ≠ b0 := by
        intro e2
        obtain ⟨b1, q3, -⟩ := h1.sl e he
        refine hb (nd_inj h1.nd e he _ hm ?_)
        rw [q3] at e2 ⊢
        have : b1 = b0 := e2
        rw [this]
      unfold updF
      rw [if_neg hne, cmg_same h1.tb.rs hq he hb]
      exact h2 e he
  · exact hk.trans hk1 (fun i _ e => ⟨_, hm, e⟩)

/-- What Mark leaves. -/
def SmarkP (w : World) (p : Nat) (t : Tr) (f : Nat → Sd) (c : Int) : Ending → World → Prop := fun x w' => x = .returned (.int .i64 0) ∧ ZS w' p t (fun j => (f j).mk') c true ∧ Kept (fun j => j = p ∨ ∃ e ∈ t.toL, j = bk e.2.2) w w'

set_option maxRecDepth 100000 in
set_option maxHeartbeats 4000000 in
/-- Mark, where every slot has something to be read. -/
theorem mark_calm (p : Nat) (t : Tr) (f : Nat → Sd) (c : Int) (w : World) (h : ZS w p t f c false) (hs : ∀ e ∈ t.toL, (see false (f (bk e.2.2))).2 = true) :
    Calls Try.prog 7 #[.pointer (some ⟨p, 0, none⟩)] w (SmarkP w p t f c) := by
  have RG := hid (fun W => range_any (some ⟨p, 0, none⟩) ⟨#[]⟩ ⟨#[]⟩ W (by decide) (by decide))
  have SW := hid (sweep_calm p t f c false w h hs)
  obtain ⟨y0, y1, y2, y3⟩ := cells4 h.tb.blk
  have HZ := hid h
  generalize hP : SmarkP w p t f c = P
  have HP := hid hP
  clear hP h hs
  refine (callsIn_wide (n := 9)).1 (callsIn_of_wp_marks Try.func7 rfl trivial (wpIn_wide.2 ?_))
  simp only [Try.ntmps7, List.size_toArray, List.length_cons, List.length_nil, Nat.reduceAdd, Nat.reduceSub, Array.replicate_succ, Array.replicate_zero, List.push_toArray, List.append_toArray, List.nil_append, List.cons_append]
  go_wp2_with (first
    | (go_at_call 23
       refine SW.out.mono ?_
       rintro e w0 ⟨rfl, hb⟩
       have N0 := hid hb
       clear hb)
    | (go_at_call 24
       refine (RG.out _).mono ?_
       rintro e w1 ⟨g1, g2, g3, rfl, hi, hb, q1, q2, q3⟩
       have N1 := hid (And.intro hi hb)
       clear hi hb q1 q2 q3))
  obtain ⟨hi, hb⟩ := N1.out
  have BB := hid (below_on N0.out hb)
  clear N1 RG hb N0 SW
  have Z1 := HZ.out.below BB.out
  have HI := hid (markI Z1 hi)
  refine rangeY (o := some ⟨p, 0, none⟩) (frm := ⟨#[]⟩) (to := ⟨#[]⟩) (g1 := g1) (g2 := g2) (g3 := g3) rfl rfl (I := MI w1 p t f c) (Ix := fun _ => False) HI.out (ahd false ⟨#[]⟩ t.toL) t hi
    (fun gf gl gt w2 hb q1 q2 q3 _ => ⟨rfl, ⟨f, Z1.below hb, fun e he => by unfold cmg; simp only [Bool.false_eq_true, if_false, kl_empty, Bool.not_false, if_true]⟩, (Kept.ofBelow hb).mono (fun _ _ e => e.elim), ⟨q1, q2, q3⟩, rfl⟩)
    (fun k v => { tmps := #[.pointer (some ⟨p, 0, none⟩), undef, .int .i64 0, undef, v, .pointer (some ⟨p, 0, none⟩), .bool false, .pointer (some ⟨p, 0, none⟩), .pointer (some ⟨p, 0, none⟩), .pointer (some ⟨p, 3, none⟩), .bool false, .pointer (some ⟨p, 0, none⟩), .tuple #[], .pointer (some ⟨p, 0, none⟩), .pointer (some ⟨p, 0, none⟩), .pointer (some ⟨p, 0, none⟩), itV g1 g2 g3, .string k, v, undef, undef, undef, undef, undef, undef, undef, undef, undef, undef, undef], defers := [] }) ?assign ?body ?done ?stop
  case assign =>
    intro n l k v W K hK
    gi_wp2
    exact hK
  case body =>
    rintro n l gf gl gt mm st last t' W b k v hI hq ht
    obtain rfl : t' = t := hI.1
    obtain rfl : mm = ahd st last t'.toL := hI.2.2.2.2
    obtain ⟨sb, rfl, -⟩ := Z1.slot (nx_mem hq)
    obtain ⟨hsl, hR⟩ := mark_on hI Z1 hq
    have HR := hid hR
    generalize hPP : RangePost w1.heap.size gf gl gt (ahd st last t'.toL) k (MI w1 p t' f c) (fun _ => False) W = PP at HR ⊢
    have ff : ∀ j, W.frozen? ⟨sb, j, none⟩ = false := fun j => free_of_block hsl
    obtain ⟨d0, d1, d2, d3, d6, d7, d8, d9, d4, d5⟩ := cells10 hsl
    have OT := hid (other_any (f sb).r)
    have HPP := hid hPP
    clear hPP hI hq ht hsl hi HZ HI Z1 BB hR d0 d1 d2 d3 d6 d7 d8 d9
    generalize f sb = s at d4 d5 OT HR ⊢
    obtain ⟨c0, c1, h0, h1, r, wb⟩ := s
    have d4' : W.cell? ⟨sb, 8, none⟩ = some (.int .i64 (bit r)) := d4
    have d5' : W.cell? ⟨sb, 9, none⟩ = some (.int .i64 (bit wb)) := d5
    clear d4 d5
    gi_wp2_with (
      refine ⟨trivial, fun hd => (by cases hd), ?_⟩
      gi_at_call 25
      refine (CallsIn.inRound l (callsIn_wide.2 (OT.out _))).mono ?_
      rintro e w2 ⟨rfl, e2⟩
      rw [e2]
      clear e2 w2)
    rw [← HPP.out]
    rw [← HPP.out] at HR
    exact HR.out
  case done =>
    rintro D W gf gl gt mm st last t' hD ⟨rfl, ⟨f', h1, h2⟩, hk, hg, rfl⟩ hE hK
    have hall : ∀ e ∈ t'.toL, (f (bk e.2.2)).mk' = f' (bk e.2.2) := fun e he => by
      have h3 : nx st last t'.toL = none := by
        cases hq : nx st last t'.toL with
        | none => rfl
        | some x =>
          obtain ⟨b, k, v⟩ := x
          exact absurd rfl (hE b k v hq).1
      rw [nx_cmg, List.find?_eq_none] at h3
      have h4 : cmg st last e = false := by simpa using h3 e he
      have := h2 e he
      rw [h4] at this
      exact this.symm
    have Z2 := h1.congr (g := fun j => (f j).mk') hall
    have Z3 := hid (Z2.mark true)
    obtain ⟨x0, x1, x2, x3⟩ := cells4 Z2.tb.blk
    have yf : ∀ j, W.frozen? ⟨p, j, none⟩ = false := fun j => free_of_block Z2.tb.blk
    have plt := (Z1.lt).1
    have NN := hid (And.intro hk (And.intro hD (And.intro hK (And.intro BB.out plt))))
    clear hg hE Z1 hi HZ HI BB hD hK h1 h2 hk hall Z2 plt
    simp only [Exit.inBlock, Exit.then]
    go_wp2
    obtain ⟨hk, hD, hK, hBB, plt⟩ := NN.out
    refine ⟨by simp, .inl ⟨_, _, rfl, run_takeDeferred (hp_set hK (show D ≠ p by omega) _), ?_⟩⟩
    refine ⟨_, results_tmp rfl _ _ _, ?_⟩
    rw [← HP.out]
    have k1 : Kept (fun j => j = p ∨ ∃ e ∈ t'.toL, j = bk e.2.2) w W := ((Kept.ofBelow hBB).mono (fun _ _ e => e.elim)).trans hk (fun _ _ e => .inr e)
    have hsz := hBB.size
    have k2 := (k1.setCell (p := ⟨p, 3, none⟩) (fun _ => .inl rfl) (.bool true)).trans (kept_put _ D (.deferred none)) (fun i hi e => by omega)
    refine ⟨rfl, ?_, k2⟩
    exact Z3.out.puto (hp_set hK (show D ≠ p by omega) _ (p := ⟨p, 3, none⟩)) rfl _
  case stop =>
    rintro D W hD h hK
    exact h.elim

end Go.Proofs.Ythjggbcppgbdoab.V

namespace Go.Proofs.Ythjggbcppgbdoab.V
open Go.RowKit

theorem lay_keep (s : Sd) (v : Pd) (h : Bool) : (s.lay v h).has (s.lay v h).r = h := by
  obtain ⟨c0, c1, h0, h1, r, w⟩ := s
  cases w <;> rfl
theorem lay_copy (s : Sd) (v : Pd) (h : Bool) : (s.lay v h).copy (s.lay v h).r = v := by
  obtain ⟨c0, c1, h0, h1, r, w⟩ := s
  cases w <;> rfl

theorem ent_of_mem : ∀ {l : List En}, Rises l → ∀ {e : En}, e ∈ l → ent e.2.1 l = some e
  | [], _, _, h => by cases h
  | a :: l, hr, e, h => by
    have hr' := List.pairwise_cons.1 hr
    unfold ent
    rw [List.find?_cons]
    rcases List.mem_cons.1 h with rfl | h1
    · simp
    · have hk := hr'.1 e h1
      have : (a.2.1.toList == e.2.1.toList) = false := keq_false (kl_ne hk)
      rw [this]
      exact ent_of_mem hr'.2 h1

/-- What a slot has that is read. -/
def rdS (s : Sd) : Pd := s.copy s.r
def updG (g : ByteArray → Option Pd) (key : ByteArray) (v : Pd) : ByteArray → Option Pd := fun k => if k = key then some v else g k

/-- A store in which every slot has something to be read: what each key has. -/
structure PV (w : World) (p : Nat) (g : ByteArray → Option Pd) (m : Bool) (n B : Nat) : Prop where
  ex : ∃ t f c, ZS w p t f c m ∧ (0 ≤ c ∧ c ≤ (n : Int)) ∧ t.n ≤ n ∧ (∀ e ∈ t.toL, (f (bk e.2.2)).has (f (bk e.2.2)).r = true) ∧ (∀ key, (ent key t.toL).map (fun e => rdS (f (bk e.2.2))) = g key) ∧
    B ≤ p ∧ (∀ j ∈ t.bs, B ≤ j) ∧ (∀ e ∈ t.toL, B ≤ bk e.2.2)

theorem PV.below {w w' : World} {p : Nat} {g : ByteArray → Option Pd} {m : Bool} {n B : Nat} (h : PV w p g m n B) (hb : Below w.heap.size w w') : PV w' p g m n B := by
  obtain ⟨t, f, c, hz, hr⟩ := h.ex
  exact ⟨⟨t, f, c, hz.below hb, hr⟩⟩

theorem pput (p : Nat) (key : ByteArray) (v : Pd) (g : ByteArray → Option Pd) (m : Bool) (n B : Nat) (w : World) (h : PV w p g m n B) (hB : B ≤ w.heap.size) (hn : n ≤ 500000) (hk : key.size ≤ 281474976710656) :
    Calls Try.prog 6 #[.pointer (some ⟨p, 0, none⟩), .string key, v.agg] w fun x w' => x = .returned (.tuple #[]) ∧ PV w' p (updG g key v) m (n + 1) B ∧ Kept (fun j => B ≤ j) w w' := by
  obtain ⟨t, f, c, hz, hc, hn1, hs, hg, b1, b2, b3⟩ := h.ex
  cases hq : ent key t.toL with
  | none =>
    refine (sput_new p key v t f c m w hz ⟨hc.1, by omega⟩ (by omega) hk hq).mono ?_
    rintro x w' ⟨rfl, t', b, n', hb, hl', hz', hk', hnw⟩
    have hperm := ins_perm (n', key, Value.pointer (some ⟨b, 0, none⟩)) t.toL
    have hmem : ∀ e, e ∈ t'.toL ↔ e = (n', key, Value.pointer (some ⟨b, 0, none⟩)) ∨ e ∈ t.toL := fun e => by rw [hl', hperm.mem_iff, List.mem_cons]
    have hlt := (hz.lt).2.2
    have hne : ∀ e ∈ t.toL, bk e.2.2 ≠ b := fun e he e3 => by have := hlt e he; omega
    have fo : ∀ e ∈ t.toL, updF (updF f b s0) b (s0.lay v true) (bk e.2.2) = f (bk e.2.2) := fun e he => by unfold updF; rw [if_neg (hne e he), if_neg (hne e he)]
    have fn : updF (updF f b s0) b (s0.lay v true) (bk (Value.pointer (some ⟨b, 0, none⟩))) = s0.lay v true := by unfold updF; rw [show bk (Value.pointer (some ⟨b, 0, none⟩)) = b from rfl, if_pos rfl]
    refine ⟨rfl, ⟨t', _, _, hz', ⟨by omega, by omega⟩, ?_, ?_, ?_, b1, ?_, ?_⟩, hk'.mono (fun j _ e => e.elim (fun e => by rw [e]; exact b1) (b2 j))⟩
    · have : t'.n = t.n + 1 := by
        unfold Tr.n
        rw [hl', hperm.length_eq, List.length_cons]
      omega
    · intro e he
      rcases (hmem e).1 he with rfl | h1
      · show (updF _ _ _ (bk (Value.pointer (some ⟨b, 0, none⟩)))).has _ = true
        rw [fn]
        exact lay_keep _ _ _
      · rw [fo e h1]
        exact hs e h1
    · intro k
      unfold updG
      by_cases hkk : k = key
      · subst hkk
        rw [if_pos rfl]
        have := ent_of_mem hz'.tb.rs ((hmem _).2 (.inl rfl))
        rw [show ent k t'.toL = _ from this]
        show some (rdS (updF _ _ _ (bk (Value.pointer (some ⟨b, 0, none⟩))))) = _
        rw [fn]
        unfold rdS
        rw [lay_copy]
      · rw [if_neg hkk, ← hg k]
        cases hq2 : ent k t.toL with
        | none =>
          cases hq3 : ent k t'.toL with
          | none => rfl
          | some e =>
            obtain ⟨h1, h2⟩ := ent_some hq3
            rcases (hmem e).1 h1 with rfl | h3
            · exact absurd h2.symm hkk
            · exact absurd h2 (ent_none hq2 e h3)
        | some e =>
          obtain ⟨h1, h2⟩ := ent_some hq2
          have := ent_of_mem hz'.tb.rs ((hmem e).2 (.inr h1))
          rw [h2] at this
          rw [this]
          show some (rdS _) = some (rdS _)
          rw [fo e h1]
    · intro j hj
      rcases hnw j hj with h1 | h1
      · exact b2 j h1
      · omega
    · intro e he
      rcases (hmem e).1 he with rfl | h1
      · show B ≤ b
        omega
      · exact b3 e h1
  | some e0 =>
    obtain ⟨b, hb, hsl⟩ := hz.sl e0 (ent_some hq).1
    refine (sput_has p key v t f c m w e0 b hz ⟨hc.1, by omega⟩ hq hb).mono ?_
    rintro x w' ⟨rfl, hz', hk'⟩
    have hm0 := (ent_some hq).1
    have hnd := nd_inj hz.nd
    have hbk : bk e0.2.2 = b := by rw [hb]; rfl
    have hne : ∀ e ∈ t.toL, e ≠ e0 → bk e.2.2 ≠ b := fun e hm hn2 e3 => by
      obtain ⟨b1', q1, -⟩ := hz.sl e hm
      refine hn2 (hnd e hm e0 hm0 ?_)
      rw [q1] at e3 ⊢
      rw [hb]
      have : b1' = b := e3
      rw [this]
    have fo : ∀ e ∈ t.toL, e ≠ e0 → updF f b ((f b).lay v true) (bk e.2.2) = f (bk e.2.2) := fun e he hn2 => by unfold updF; rw [if_neg (hne e he hn2)]
    have fn : updF f b ((f b).lay v true) (bk e0.2.2) = (f b).lay v true := by unfold updF; rw [hbk, if_pos rfl]
    refine ⟨rfl, ⟨t, _, _, hz', ?_, by omega, ?_, ?_, b1, b2, b3⟩, hk'.mono (fun j _ e => e.elim (fun e => by rw [e]; exact b1) (fun e => by rw [e, ← hbk]; exact b3 e0 hm0))⟩
    · cases (f b).has (f b).r
      · simp only [Bool.false_eq_true, if_false]; omega
      · simp only [if_true]; omega
    · intro e he
      by_cases h1 : e = e0
      · subst h1
        rw [fn]
        exact lay_keep _ _ _
      · rw [fo e he h1]
        exact hs e he
    · intro k
      unfold updG
      by_cases hkk : k = key
      · subst hkk
        rw [if_pos rfl, hq]
        show some (rdS _) = _
        rw [fn]
        unfold rdS
        rw [lay_copy]
      · rw [if_neg hkk, ← hg k]
        cases hq2 : ent k t.toL with
        | none => rfl
        | some e =>
          obtain ⟨h1, h2⟩ := ent_some hq2
          show some (rdS _) = some (rdS _)
          rw [fo e h1 (fun e3 => hkk (by rw [← h2, e3]; exact (ent_some hq).2))]

theorem pmark (p : Nat) (g : ByteArray → Option Pd) (n B : Nat) (w : World) (h : PV w p g false n B) :
    Calls Try.prog 7 #[.pointer (some ⟨p, 0, none⟩)] w fun x w' => x = .returned (.int .i64 0) ∧ PV w' p g true n B ∧ Kept (fun j => B ≤ j) w w' := by
  obtain ⟨t, f, c, hz, hc, hn1, hs, hg, b1, b2, b3⟩ := h.ex
  refine (mark_calm p t f c w hz (fun e he => hs e he)).mono ?_
  rintro x w' ⟨rfl, hz', hk'⟩
  exact ⟨rfl, ⟨t, _, c, hz', hc, hn1, fun e he => hs e he, fun key => hg key, b1, b2, b3⟩, hk'.mono (fun j _ e => e.elim (fun e => by rw [e]; exact b1) (fun ⟨x, hx, e⟩ => by rw [e]; exact b3 x hx))⟩

theorem pget (p : Nat) (key : ByteArray) (g : ByteArray → Option Pd) (m : Bool) (n B : Nat) (w : World) (h : PV w p g m n B) :
    Calls Try.prog 8 #[.pointer (some ⟨p, 0, none⟩), .string key] w fun x w' => (∃ (r : Pd) (q : Bool), x = .returned (.tuple #[r.agg, .bool q]) ∧ Hid (∀ v, g key = some v → r = v ∧ q = true)) ∧ Hid (Below w.heap.size w w') := by
  obtain ⟨t, f, c, hz, hc, hn1, hs, hg, b1, b2, b3⟩ := h.ex
  refine (sget_any p key t f c m w hz).mono ?_
  rintro x w' ⟨rfl, hb⟩
  refine ⟨⟨_, _, rfl, hid (fun v hv => ?_)⟩, hid hb⟩
  have := hg key
  rw [hv] at this
  cases hq : ent key t.toL with
  | none => rw [hq] at this; cases this
  | some e0 =>
    obtain ⟨b, hb, hsl⟩ := hz.sl e0 (ent_some hq).1
    rw [hq] at this
    injection this with this
    unfold zget
    rw [hq]
    simp only [hb]
    have hbk : bk e0.2.2 = b := by rw [hb]; rfl
    have this : rdS (f (bk e0.2.2)) = v := this
    rw [hbk] at this
    have hh := hs e0 (ent_some hq).1
    rw [hbk] at hh
    exact ⟨this, hh⟩

set_option maxRecDepth 100000 in
set_option maxHeartbeats 800000 in
theorem pnew (w : World) : Calls Try.prog 5 #[] w fun x w' => x = .returned (.pointer (some ⟨w.heap.size, 0, none⟩)) ∧ Hid (PV w' w.heap.size (fun _ => none) false 0 w.heap.size ∧ Below w.heap.size w w') := by
  go_enter Try.func5, Try.ntmps5
  go_wp2
  go_ret
  exact ⟨rfl, hid ⟨⟨.nil, fun _ => s0, 0, ⟨⟨hp_new w _, trivial, List.Pairwise.nil, List.Pairwise.nil⟩, fun e he => (by cases he), List.Pairwise.nil, fun e he => (by cases he)⟩, ⟨by decide, by decide⟩, by decide, fun e he => (by cases he), fun _ => rfl, Nat.le_refl _, fun j hj => (by cases hj), fun e he => (by cases he)⟩, below_new _ _⟩⟩

end Go.Proofs.Ythjggbcppgbdoab.V

namespace Go.Proofs.Ythjggbcppgbdoab
open Go.RowKit

theorem Try.cells3 : Try.prog.cellsOf 3 = 1 := by kernel_rfl
theorem Try.cells9 : Try.prog.cellsOf 9 = 1 := by kernel_rfl
theorem Try.cells27 : Try.prog.cellsOf 27 = 1 := by kernel_rfl
theorem Try.cells29 : Try.prog.cellsOf 29 = 3 := by kernel_rfl

theorem flat_one {α : Type} (f : α → Value) : ∀ ys : List α, ys.flatMap (fun y => [f y]) = ys.map f
  | [] => rfl
  | y :: ys => by rw [List.flatMap_cons, List.map_cons, flat_one f ys]; rfl

def Pc (p : V.Pd) : List Value := [.string p.n, .int .i64 p.a, .slice p.ao p.l p.c]
theorem pc_len (p : V.Pd) : (Pc p).length = 3 := rfl
theorem pc_one (p : V.Pd) : ∀ u ∈ Pc p, u.oneCell' = true := by
  intro u hu
  simp [Pc] at hu
  rcases hu with rfl | rfl | rfl <;> rfl
instance : Inhabited V.Pd := ⟨V.zPd⟩
instance : Inhabited ByteArray := ⟨⟨#[]⟩⟩

section
variable {H : Type} {enc : TypeId × Value → H} {W : World} {base : Nat} {held : Bool} {fuel : Nat} {cs : List Value} {x : DataW H × List MemPlace}

theorem int_of_trod (h : DataW.trod enc Try.prog W base (fun _ => true) held fuel 3 cs = some x) : ∃ y : Int, cs = [.int .i64 y] := by
  obtain ⟨a0, e0, _, w0⟩ := DataW.trod_int Try.underlying3 h
  exact ⟨a0, e0⟩
theorem str_of_trod (h : DataW.trod enc Try.prog W base (fun _ => true) held fuel 9 cs = some x) (hw : ∀ m ∈ x.1.weights Try.prog 9, m ≤ reachBytes) : ∃ y : ByteArray, y.size ≤ 281474976710656 ∧ cs = [.string y] := by
  obtain ⟨s, e4, e5, w4⟩ := DataW.trod_string Try.underlying9 h
  refine ⟨s, ?_, e4⟩
  rw [e5] at hw
  have h1 := hw s.data.toList.length (by simp [DataW.weights])
  have h2 := reachBytes_lt
  have h3 : s.size = s.data.toList.length := by rw [Array.length_toList]; rfl
  omega

theorem mem_weightsAll {P : Program} {e : TypeId} : ∀ {ds : List (DataW H)} {d : DataW H} {n : Nat}, d ∈ ds → n ∈ d.weights P e → n ∈ DataW.weightsAll P e ds
  | a :: ds, d, n, hd, hn => by
    rw [DataW.weightsAll, List.mem_append]
    rcases List.mem_cons.1 hd with rfl | hd
    · exact .inl hn
    · exact .inr (mem_weightsAll hd hn)

/-- A slice whose elements are read, element by element. -/
theorem rf_of_trod_w {t e : TypeId} {α : Type} [Inhabited α] (f : α → List Value) (p : α → Prop) (m : Nat) (hf : ∀ y, (f y).length = m) (h1 : ∀ y, ∀ u ∈ f y, u.oneCell' = true)
    (ht : Try.prog.underlying t = some (.slice e)) (hm : Try.prog.cellsOf e = m) (hel : ∀ n cs' x', DataW.trod enc Try.prog W base (fun _ => true) held n e cs' = some x' → (∀ m ∈ x'.1.weights Try.prog e, m ≤ reachBytes) → ∃ y : α, p y ∧ cs' = f y) (hw : ∀ m ∈ x.1.weights Try.prog t, m ≤ reachBytes)
    (h : DataW.trod enc Try.prog W base (fun _ => true) held fuel t cs = some x) : ∃ (v : Value) (ys : List α), cs = [v] ∧ Rf W m v ys.length (ys.flatMap f) ∧ ∀ y ∈ ys, p y := by
  rcases Go.Deep.open_slice ht h with ⟨rfl, _⟩ | ⟨a, len, cap, mm, n, D, Pl, rfl, _, hl, hcm, hmm, hxe, hx⟩
  · exact ⟨_, [], rfl, rf_nil W m, (fun _ h => nomatch h)⟩
  · simp only [if_true] at hmm
    subst hmm
    rw [hm] at hx
    have key : ∀ i, i < len → ∃ y : α, p y ∧ ∀ c, c < m → W.cell? ((a.add (i * m)).add c) = (f y)[c]? := by
      intro i hi
      obtain ⟨cs', q1, q2⟩ := hx i (by omega)
      obtain ⟨y, hy, rfl⟩ := hel _ _ _ q2 (fun m hm => hw m (by
        rw [hxe]
        simp only [DataW.weights, ht]
        exact List.mem_cons_of_mem _ (List.mem_append_left _ (mem_weightsAll (List.mem_map.2 ⟨i, by simpa using hi, rfl⟩) hm))))
      exact ⟨y, hy, fun c hc => (World.cells?_some q1).2.2 c hc⟩
    obtain ⟨F, hF⟩ := Go.Deep.choose_lt key
    refine ⟨_, (List.range len).map F, rfl, ⟨flat_len f m hf _, ?_, .inr ⟨a, mm, by simp, by simpa using hl, hcm, ?_⟩⟩, ?_⟩
    · intro u hu
      obtain ⟨y, _, hy⟩ := List.mem_flatMap.1 hu
      exact h1 y u hy
    · intro j u hu
      have hmp : 0 < m := by
        rcases Nat.eq_zero_or_pos m with h0 | h0
        · have hz := flat_len f m hf ((List.range len).map F)
          rw [h0, Nat.mul_zero] at hz
          rw [List.eq_nil_of_length_eq_zero hz] at hu
          simp at hu
        · exact h0
      have hj : j = j / m * m + j % m := by rw [Nat.mul_comm]; exact (Nat.div_add_mod j m).symm
      have hc : j % m < m := Nat.mod_lt _ hmp
      rw [hj, flat_get f m hf _ _ _ hc] at hu
      rw [List.getElem?_map] at hu
      have hlt : j / m < len := by
        rcases Nat.lt_or_ge (j / m) len with h | h
        · exact h
        · rw [List.getElem?_eq_none (by simpa using h)] at hu
          simp at hu
      simp [hlt] at hu
      have := (hF (j / m) hlt).2 (j % m) hc
      rw [hu, add_add, ← hj] at this
      exact this
    · intro y hy
      simp at hy
      obtain ⟨i, hi, rfl⟩ := hy
      exact (hF i hi).1

set_option maxRecDepth 100000 in
theorem proc_of_trod (h : DataW.trod enc Try.prog W base (fun _ => true) held fuel 29 cs = some x) : ∃ y : V.Pd, True ∧ cs = Pc y := by
  obtain ⟨xs, n, _, rfl, hl, hlen, hf⟩ := DataW.trod_struct Try.underlying29 h
  rw [Try.cells29] at hl
  match cs, hl, xs, hlen with
  | [c0, c1, c2], _, [y0, y1, y2], _ =>
    have f0 : DataW.trod enc Try.prog W base (fun _ => true) held n 9 (([c0, c1, c2].drop 0).take (Try.prog.cellsOf 9)) = some y0 := hf 0 _ rfl
    have f1 : DataW.trod enc Try.prog W base (fun _ => true) held n 3 (([c0, c1, c2].drop 1).take (Try.prog.cellsOf 3)) = some y1 := hf 1 _ rfl
    have f2 : DataW.trod enc Try.prog W base (fun _ => true) held n 27 (([c0, c1, c2].drop 2).take (Try.prog.cellsOf 27)) = some y2 := hf 2 _ rfl
    rw [Try.cells9] at f0
    rw [Try.cells3] at f1
    rw [Try.cells27] at f2
    obtain ⟨s0, e0, _, _⟩ := DataW.trod_string Try.underlying9 (x := y0) (by simpa using f0)
    obtain ⟨a1, e1, _, _⟩ := DataW.trod_int Try.underlying3 (x := y1) (by simpa using f1)
    have f2' : DataW.trod enc Try.prog W base (fun _ => true) held n 27 [c2] = some y2 := by simpa using f2
    simp at e0 e1
    subst e0 e1
    rcases Go.Deep.open_slice Try.underlying27 f2' with ⟨e, _⟩ | ⟨a, len, cap, mm, n, D, Pl, e, _⟩
    · simp at e
      subst e
      exact ⟨⟨s0, a1, none, 0, 0⟩, trivial, rfl⟩
    · simp at e
      subst e
      exact ⟨⟨s0, a1, some a, len, cap⟩, trivial, rfl⟩

theorem strs_of_trod (h : DataW.trod enc Try.prog W base (fun _ => true) held fuel 22 cs = some x) (hw : ∀ m ∈ x.1.weights Try.prog 22, m ≤ reachBytes) : ∃ (v : Value) (ys : List ByteArray), cs = [v] ∧ Rf W 1 v ys.length (ys.map Value.string) ∧ ∀ y ∈ ys, y.size ≤ 281474976710656 := by
  obtain ⟨v, ys, e, hr, hy⟩ := rf_of_trod_w (fun y : ByteArray => [Value.string y]) (fun y : ByteArray => y.size ≤ 281474976710656) 1 (fun _ => rfl) (fun y u hu => by simp at hu; rw [hu]; rfl) Try.underlying22 Try.cells9 (fun _ _ _ h hw => str_of_trod h hw) hw h
  exact ⟨v, ys, e, by rwa [flat_one] at hr, hy⟩
theorem procs_of_trod (h : DataW.trod enc Try.prog W base (fun _ => true) held fuel 23 cs = some x) (hw : ∀ m ∈ x.1.weights Try.prog 23, m ≤ reachBytes) : ∃ (v : Value) (ys : List V.Pd), cs = [v] ∧ Rf W 3 v ys.length (ys.flatMap Pc) := by
  obtain ⟨v, ys, e, hr, -⟩ := rf_of_trod_w Pc (fun _ => True) 3 pc_len pc_one Try.underlying23 Try.cells29 (fun _ _ _ h _ => proc_of_trod h) hw h
  exact ⟨v, ys, e, hr⟩
end

end Go.Proofs.Ythjggbcppgbdoab

namespace Go.Proofs.Ythjggbcppgbdoab
open Go.RowKit

/-- What the keys have behind k puts. -/
def GG (ks : List ByteArray) (P : Nat → V.Pd) : Nat → ByteArray → Option V.Pd
  | 0 => fun _ => none
  | k + 1 => V.updG (GG ks P k) (ks.getD k ⟨#[]⟩) (P k)

theorem gg_last {ks : List ByteArray} {P : Nat → V.Pd} {i : Nat} : ∀ {n : Nat}, i < n → (∀ j, i < j → j < n → ks.getD j ⟨#[]⟩ ≠ ks.getD i ⟨#[]⟩) → GG ks P n (ks.getD i ⟨#[]⟩) = some (P i)
  | 0, h, _ => by omega
  | n + 1, h, hl => by
    unfold GG V.updG
    by_cases hin : i = n
    · subst hin
      rw [if_pos rfl]
    · rw [if_neg (fun e => hl n (by omega) (by omega) e.symm)]
      exact gg_last (by omega) (fun j h1 h2 => hl j h1 (by omega))

/-- The store behind k puts. -/
structure Ai (w : World) (ks : List ByteArray) (P : Nat → V.Pd) (p k : Nat) (m : Bool) (W : World) : Prop where
  pv : V.PV W p (GG ks P k) m k w.heap.size
  be : Below w.heap.size w W

theorem Ai.on {w W W' : World} {ks : List ByteArray} {P : Nat → V.Pd} {p k k' : Nat} {m m' : Bool} (h : Ai w ks P p k m W) (hp : V.PV W' p (GG ks P k') m' k' w.heap.size) (hk : Kept (fun j => w.heap.size ≤ j) W W') : Ai w ks P p k' m' W' :=
  ⟨hp, h.be.trans (hk.below h.be.size (fun k hk' hs => by omega))⟩

theorem Ai.below {w W W' : World} {ks : List ByteArray} {P : Nat → V.Pd} {p k : Nat} {m : Bool} (h : Ai w ks P p k m W) (hb : Below W.heap.size W W') : Ai w ks P p k m W' :=
  ⟨h.pv.below hb, h.be.trans (hb.mono h.be.size)⟩

def pAt (ps : List V.Pd) (i : Nat) : V.Pd := ps.getD (i % ps.length) V.zPd

/-- The lists that are read. -/
structure Ar (w : World) (kb ko : Nat) (ks : List ByteArray) (pb po : Nat) (ps : List V.Pd) : Prop where
  k : ∀ i, i < ks.length → w.cell? ⟨kb, ko + i, none⟩ = some (.string (ks.getD i ⟨#[]⟩))
  p0 : ∀ i, i < ps.length → w.cell? ⟨pb, po + i * 3, none⟩ = some (.string (ps.getD i V.zPd).n)
  p1 : ∀ i, i < ps.length → w.cell? ⟨pb, po + i * 3 + 1, none⟩ = some (.int .i64 (ps.getD i V.zPd).a)
  p2 : ∀ i, i < ps.length → w.cell? ⟨pb, po + i * 3 + 2, none⟩ = some (.slice (ps.getD i V.zPd).ao (ps.getD i V.zPd).l (ps.getD i V.zPd).c)

theorem ar_of {w : World} {ks : List ByteArray} {ps : List V.Pd} {kb ko kc pb po pc : Nat} (h0 : Rf w 1 (.slice (some ⟨kb, ko, none⟩) ks.length kc) ks.length (ks.map Value.string)) (h1 : Rf w 3 (.slice (some ⟨pb, po, none⟩) ps.length pc) ps.length (ps.flatMap Pc)) (hk : 0 < ks.length) (hp : 0 < ps.length) : Ar w kb ko ks pb po ps := by
  obtain ⟨b, off, cap, e, -, -, hc⟩ := h0.lits hk (by decide)
  injection e with e1 _ e3
  injection e1 with e1
  injection e1 with e1 e2
  subst e1 e2 e3
  obtain ⟨b', off', cap', e', -, -, hc'⟩ := h1.lits hp (by decide)
  injection e' with e1 _ e3
  injection e1 with e1
  injection e1 with e1 e2
  subst e1 e2 e3
  have hg : ∀ i c, i < ps.length → c < 3 → (ps.flatMap Pc)[i * 3 + c]? = (Pc (ps.getD i V.zPd))[c]? := fun i c hi hc => by
    rw [flat_get Pc 3 pc_len ps i c hc, List.getElem?_eq_getElem hi]
    simp [List.getD, hi]
  refine ⟨fun i hi => hc i _ ?_, fun i hi => ?_, fun i hi => ?_, fun i hi => ?_⟩
  · rw [List.getElem?_map]
    simp [List.getD, hi]
  · exact hc' (i * 3) _ (by have := hg i 0 hi (by decide); exact this)
  · have := hc' (i * 3 + 1) _ (hg i 1 hi (by decide))
    rwa [← Nat.add_assoc] at this
  · have := hc' (i * 3 + 2) _ (hg i 2 hi (by decide))
    rwa [← Nat.add_assoc] at this

theorem Ar.lt {w W : World} {kb ko pb po : Nat} {ks : List ByteArray} {ps : List V.Pd} (h : Ar w kb ko ks pb po ps) (hb : Below w.heap.size w W) : Ar W kb ko ks pb po ps := by
  have key : ∀ {a : Addr} {v : Value}, w.cell? a = some v → W.cell? a = some v := fun hc => (Kept.ofBelow hb).cell hc (fun e => e)
  exact ⟨fun i hi => key (h.k i hi), fun i hi => key (h.p0 i hi), fun i hi => key (h.p1 i hi), fun i hi => key (h.p2 i hi)⟩

end Go.Proofs.Ythjggbcppgbdoab
