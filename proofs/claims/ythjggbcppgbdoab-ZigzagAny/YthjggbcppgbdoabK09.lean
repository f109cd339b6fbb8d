import Derived.Test.YthjggbcppgbdoabK08
namespace Go.Proofs.Ythjggbcppgbdoab
open Go.RowKit

attribute [local go_sem] Oper.semAt_some

/-- A slot that is marked: the copy that is not read is the one that is written. -/
def Sd.mk' (s : Sd) : Sd := ⟨s.c0, s.c1, s.h0, s.h1, s.r, !s.r⟩

theorem nd_inj : ∀ {l : List En}, (l.map (fun e => e.2.2)).Nodup → ∀ a ∈ l, ∀ b ∈ l, a.2.2 = b.2.2 → a = b
  | [], _, _, h, _, _, _ => by cases h
  | c :: l, hn, a, ha, b, hb, e => by
    rw [List.map_cons, List.nodup_cons] at hn
    rcases List.mem_cons.1 ha with h1 | h1 <;> rcases List.mem_cons.1 hb with h2 | h2
    · rw [h1, h2]
    · subst h1
      exact absurd (List.mem_map.2 ⟨b, h2, e.symm⟩) hn.1
    · subst h2
      exact absurd (List.mem_map.2 ⟨a, h1, e⟩) hn.1
    · exact nd_inj hn.2 a h1 b h2 e

theorem cmg_same {st : Bool} {last : ByteArray} {l : List En} {b : Nat} {k : ByteArray} {v : Value} (hr : Rises l) (hq : nx st last l = some (b, k, v)) {e : En} (he : e ∈ l) (hn : e ≠ (b, k, v)) : cmg true k e = cmg st last e := by
  rw [nx_cmg] at hq
  obtain ⟨h1, h2, h3⟩ := find_first hr hq
  cases hc : cmg st last e
  · cases hk : cmg true k e
    · rfl
    · rw [cmg_up (k := k) h2 hk] at hc
      cases hc
  · rcases h3 e he hc with h4 | h4
    · exact absurd h4 hn
    · exact h4

theorem ZS.mark {w : World} {p : Nat} {t : Tr} {f : Nat → Sd} {c : Int} {m : Bool} (h : ZS w p t f c m) (m' : Bool) : ZS (w.setCell ⟨p, 3, none⟩ (.bool m')) p t f c m' := by
  have K : Kept (fun j => j = p) w (w.setCell ⟨p, 3, none⟩ (.bool m')) := (Kept.refl (fun j => j = p) w).setCell (p := ⟨p, 3, none⟩) (fun _ => rfl) _
  refine ⟨⟨set_block (i := 3) h.tb.blk _, h.tb.at_.kept K (fun i hi e => h.tb.apart (e ▸ hi)), h.tb.rs, h.tb.nd⟩, fun e he => ?_, h.nd, h.sh⟩
  obtain ⟨b, h1, h2⟩ := h.sl e he
  exact ⟨b, h1, hp_set h2 (tb_not h.tb h2 (by decide)).1 _⟩

/-- A block that is no cells is put. -/
theorem ZS.puto {w : World} {p : Nat} {t : Tr} {f : Nat → Sd} {c : Int} {m : Bool} (h : ZS w p t f c m) {D : Nat} {ob : Obj} (hD : w.heap[D]? = some ob) (hc : ob.isCells = false) (o' : Obj) : ZS (w.putObj D o') p t f c m := by
  have nc : ∀ j cs ty, w.heap[j]? = some (.cells cs ty (0, 0)) → ¬ j = D := fun j cs ty hj e => by
    subst e
    rw [hj] at hD
    cases hD
    cases hc
  refine h.kept (kept_put _ D o') (nc _ _ _ h.tb.blk) ?_ ?_
  · intro i hi
    obtain ⟨kk, vv, hm⟩ := bs_mem hi
    obtain ⟨a1, a2, a3, a4⟩ := h.tb.at_.mem i kk vv hm
    exact nc _ _ _ a4
  · intro e he
    obtain ⟨b1, q1, q2⟩ := h.sl e he
    rw [q1]
    exact nc _ _ _ q2

/-- Between two rounds of Mark's loop. -/
def MI (w1 : World) (p : Nat) (t : Tr) (f : Nat → Sd) (c : Int) : Nat → Nat → Nat → Nat → Bool → ByteArray → Tr → World → Prop :=
  fun gf gl gt mm st last t' W => t' = t ∧ (∃ f', ZS W p t f' c false ∧ ∀ e ∈ t.toL, f' (bk e.2.2) = if cmg st last e then f (bk e.2.2) else (f (bk e.2.2)).mk') ∧ Kept (fun j => ∃ e ∈ t.toL, j = bk e.2.2) w1 W ∧ (w1.heap.size ≤ gf ∧ w1.heap.size ≤ gl ∧ w1.heap.size ≤ gt) ∧ mm = ahd st last t.toL

theorem it_kept {w w' : World} {g1 g2 g3 : Nat} {o : Option Addr} {frm to : ByteArray} {S : Nat → Prop} (h : It w g1 g2 g3 o frm to) (hk : Kept S w w') (h1 : ¬ S g1) (h2 : ¬ S g2) (h3 : ¬ S g3) : It w' g1 g2 g3 o frm to :=
  ⟨hp_kept h.t hk h1, hp_kept h.f hk h2, hp_kept h.e hk h3⟩

theorem it_slot {w : World} {g1 g2 g3 : Nat} {o : Option Addr} {frm to : ByteArray} {p : Nat} {t : Tr} {f : Nat → Sd} {c : Int} {m : Bool} (h : It w g1 g2 g3 o frm to) (hz : ZS w p t f c m) : ∀ e ∈ t.toL, bk e.2.2 ≠ g1 ∧ bk e.2.2 ≠ g2 ∧ bk e.2.2 ≠ g3 := by
  intro e he
  obtain ⟨b, q1, q2⟩ := hz.sl e he
  rw [q1]
  refine ⟨?_, ?_, ?_⟩
  · rintro rfl
    have := h.t
    have q3 : w.heap[b]? = _ := q2
    rw [show w.heap[bk (Value.pointer (some ⟨b, 0, none⟩))]? = _ from q3] at this
    cases this
  · rintro rfl
    have := h.f
    have q3 : w.heap[b]? = _ := q2
    rw [Bx, show w.heap[bk (Value.pointer (some ⟨b, 0, none⟩))]? = _ from q3] at this
    cases this
  · rintro rfl
    have := h.e
    have q3 : w.heap[b]? = _ := q2
    rw [Bx, show w.heap[bk (Value.pointer (some ⟨b, 0, none⟩))]? = _ from q3] at this
    cases this

theorem markI {w1 : World} {p g1 g2 g3 : Nat} {f : Nat → Sd} {frm to : ByteArray} {t : Tr} {c : Int} (hz : ZS w1 p t f c false) (hi : It w1 g1 g2 g3 (some ⟨p, 0, none⟩) frm to) :
    RangeI w1.heap.size (some ⟨p, 0, none⟩) frm to g1 g2 g3 (MI w1 p t f c) (fun _ => False) := by
  refine ⟨?_, ?_, ?_, fun h _ _ => h⟩
  · rintro gf gl gt mm st last t' W ⟨rfl, ⟨f', h1, -⟩, -⟩
    exact ⟨.inr ⟨p, _, rfl, h1.tb⟩, fun e he => h1.sh e he⟩
  · rintro gf gl gt mm st last t' W ⟨rfl, -, hk, -⟩
    have := it_slot hi hz
    exact it_kept hi hk (fun ⟨e, he, q⟩ => (this e he).1 q.symm) (fun ⟨e, he, q⟩ => (this e he).2.1 q.symm) (fun ⟨e, he, q⟩ => (this e he).2.2 q.symm)
  · rintro gf gl gt mm st last t' W W' S ⟨rfl, ⟨f', h1, h2⟩, hk, hg, hm⟩ hk' hS
    have hS' : ∀ k, S k → w1.heap.size ≤ k := fun k hs => by
      rcases hS k hs with e | e | e | ⟨e, -⟩ <;> omega
    exact ⟨rfl, ⟨f', h1.far hz hk' hS', h2⟩, hk.trans hk' (fun i hi hs => by have := hS' i hs; omega), hg, hm⟩

theorem kl_empty (k : ByteArray) : kl k ⟨#[]⟩ = false := by
  unfold kl
  rw [show (⟨#[]⟩ : ByteArray).toList = [] by simp [Lib.toList_data]]
  cases k.toList <;> rfl

/-- A round of Mark's loop. -/
theorem mark_on {w1 W : World} {p : Nat} {t : Tr} {f : Nat → Sd} {c : Int} {gf gl gt : Nat} {st : Bool} {last : ByteArray} {b sb : Nat} {k : ByteArray} (h : MI w1 p t f c gf gl gt (ahd st last t.toL) st last t W) (hz : ZS w1 p t f c false) (hq : nx st last t.toL = some (b, k, .pointer (some ⟨sb, 0, none⟩))) :
    Sl W sb (f sb) ∧ RangePost w1.heap.size gf gl gt (ahd st last t.toL) k (MI w1 p t f c) (fun _ => False) W .normal { tmps := #[], defers := [] } (W.setCell ⟨sb, 5, none⟩ (.int .i64 (bit (!(f sb).r)))) := by
  obtain ⟨-, ⟨f', h1, h2⟩, hk, hg, -⟩ := h
  have hm := nx_mem hq
  have hc : cmg st last (b, k, Value.pointer (some ⟨sb, 0, none⟩)) = true := by
    have := hq
    rw [nx_cmg] at this
    exact List.find?_some this
  obtain ⟨b0, q1, q2⟩ := h1.sl _ hm
  have e0 : b0 = sb := by injection q1 with q1; injection q1 with q1; injection q1 with q1; exact q1.symm
  subst e0
  have e1 : f' b0 = f b0 := by
    have := h2 _ hm
    rw [hc] at this
    exact this
  rw [e1] at q2
  have lt := (hz.lt).2.2 _ hm
  have lt' : b0 < w1.heap.size := lt
  have hs : Sl (W.setCell ⟨b0, 5, none⟩ (.int .i64 (bit (!(f b0).r)))) b0 (f b0).mk' := set_block (i := 5) q2 _
  have hk1 : Kept (fun j => j = b0) W (W.setCell ⟨b0, 5, none⟩ (.int .i64 (bit (!(f b0).r)))) := (Kept.refl (fun j => j = b0) W).setCell (p := ⟨b0, 5, none⟩) (fun _ => rfl) _
  refine ⟨q2, (KeepsOthers.setCell _ _ _).from _, ⟨?_, ?_, ?_⟩, ahd true k t.toL, t, ahd_less hq, rfl, ⟨updF f' b0 (f b0).mk', h1.lay hm rfl hs hk1, ?_⟩, ?_, hg, rfl⟩
  · exact Below.heap_setCell _ _ _ _ (show gf ≠ b0 by omega)
  · exact Below.heap_setCell _ _ _ _ (show gl ≠ b0 by omega)
  · exact Below.heap_setCell _ _ _ _ (show gt ≠ b0 by omega)
  · intro e he
    by_cases hb : e = (b, k, Value.pointer (some ⟨b0, 0, none⟩))
    · subst hb
      have : cmg true k (b, k, Value.pointer (some ⟨b0, 0, none⟩)) = false := kl_irrefl k
      rw [this]
      show updF f' b0 _ b0 = _
      unfold updF
      rw [if_pos rfl]
      rfl
    · have hne : bk e.2.2 ≠ b0 := by
        intro e2
        obtain ⟨b1, q3, -⟩ := h1.sl e he
        refine hb (nd_inj h1.nd e he _ hm ?_)
        rw [q3] at e2 ⊢
        have : b1 = b0 := e2
        rw [this]
      unfold updF
      rw [if_neg hne, cmg_same h1.tb.rs hq he hb]
      exact h2 e he
  · exact hk.trans hk1 (fun i _ e => ⟨_, hm, e⟩)

/-- What Mark leaves. -/
def SmarkP (w : World) (p : Nat) (t : Tr) (f : Nat → Sd) (c : Int) : Ending → World → Prop := fun x w' => x = .returned (.int .i64 0) ∧ ZS w' p t (fun j => (f j).mk') c true ∧ Kept (fun j => j = p ∨ ∃ e ∈ t.toL, j = bk e.2.2) w w'

set_option maxRecDepth 100000 in
set_option maxHeartbeats 4000000 in
/-- Mark, where every slot has something to be read. -/
theorem mark_calm (p : Nat) (t : Tr) (f : Nat → Sd) (c : Int) (w : World) (h : ZS w p t f c false) (hs : ∀ e ∈ t.toL, (see false (f (bk e.2.2))).2 = true) :
    Calls Try.prog 11 #[.pointer (some ⟨p, 0, none⟩)] w (SmarkP w p t f c) := by
  have RG := hid (fun W => range_any (some ⟨p, 0, none⟩) ⟨#[]⟩ ⟨#[]⟩ W (by decide) (by decide))
  have SW := hid (sweep_calm p t f c false w h hs)
  obtain ⟨y0, y1, y2, y3⟩ := cells4 h.tb.blk
  have HZ := hid h
  generalize hP : SmarkP w p t f c = P
  have HP := hid hP
  clear hP h hs
  refine (callsIn_wide (n := 9)).1 (callsIn_of_wp_marks Try.func11 rfl trivial (wpIn_wide.2 ?_))
  simp only [Try.ntmps11, List.size_toArray, List.length_cons, List.length_nil, Nat.reduceAdd, Nat.reduceSub, Array.replicate_succ, Array.replicate_zero, List.push_toArray, List.append_toArray, List.nil_append, List.cons_append]
  go_wp2_with (first
    | (go_at_call 30
       refine SW.out.mono ?_
       rintro e w0 ⟨rfl, hb⟩
       have N0 := hid hb
       clear hb)
    | (go_at_call 31
       refine (RG.out _).mono ?_
       rintro e w1 ⟨g1, g2, g3, rfl, hi, hb, q1, q2, q3⟩
       have N1 := hid (And.intro hi hb)
       clear hi hb q1 q2 q3))
  obtain ⟨hi, hb⟩ := N1.out
  have BB := hid (below_on N0.out hb)
  clear N1 RG hb N0 SW
  have Z1 := HZ.out.below BB.out
  have HI := hid (markI Z1 hi)
  refine rangeY (o := some ⟨p, 0, none⟩) (frm := ⟨#[]⟩) (to := ⟨#[]⟩) (g1 := g1) (g2 := g2) (g3 := g3) rfl rfl (I := MI w1 p t f c) (Ix := fun _ => False) HI.out (ahd false ⟨#[]⟩ t.toL) t hi
    (fun gf gl gt w2 hb q1 q2 q3 _ => ⟨rfl, ⟨f, Z1.below hb, fun e he => by unfold cmg; simp only [Bool.false_eq_true, if_false, kl_empty, Bool.not_false, if_true]⟩, (Kept.ofBelow hb).mono (fun _ _ e => e.elim), ⟨q1, q2, q3⟩, rfl⟩)
    (fun k v => { tmps := #[.pointer (some ⟨p, 0, none⟩), undef, .int .i64 0, undef, v, .pointer (some ⟨p, 0, none⟩), .bool false, .pointer (some ⟨p, 0, none⟩), .pointer (some ⟨p, 0, none⟩), .pointer (some ⟨p, 3, none⟩), .bool false, .pointer (some ⟨p, 0, none⟩), .tuple #[], .pointer (some ⟨p, 0, none⟩), .pointer (some ⟨p, 0, none⟩), .pointer (some ⟨p, 0, none⟩), itV g1 g2 g3, .string k, v, undef, undef, undef, undef, undef, undef, undef, undef, undef, undef, undef], defers := [] }) ?assign ?body ?done ?stop
  case assign =>
    intro n l k v W K hK
    gi_wp2
    exact hK
  case body =>
    rintro n l gf gl gt mm st last t' W b k v hI hq ht
    obtain rfl : t' = t := hI.1
    obtain rfl : mm = ahd st last t'.toL := hI.2.2.2.2
    obtain ⟨sb, rfl, -⟩ := Z1.slot (nx_mem hq)
    obtain ⟨hsl, hR⟩ := mark_on hI Z1 hq
    have HR := hid hR
    generalize hPP : RangePost w1.heap.size gf gl gt (ahd st last t'.toL) k (MI w1 p t' f c) (fun _ => False) W = PP at HR ⊢
    have ff : ∀ j, W.frozen? ⟨sb, j, none⟩ = false := fun j => free_of_block hsl
    obtain ⟨d0, d1, d2, d3, d4, d5⟩ := cells6 hsl
    have OT := hid (other_any (f sb).r)
    have HPP := hid hPP
    clear hPP hI hq ht hsl hi HZ HI Z1 BB hR d0 d1 d2 d3
    generalize f sb = s at d4 d5 OT HR ⊢
    obtain ⟨c0, c1, h0, h1, r, wb⟩ := s
    have d4' : W.cell? ⟨sb, 4, none⟩ = some (.int .i64 (bit r)) := d4
    have d5' : W.cell? ⟨sb, 5, none⟩ = some (.int .i64 (bit wb)) := d5
    clear d4 d5
    gi_wp2_with (
      refine ⟨trivial, fun hd => (by cases hd), ?_⟩
      gi_at_call 25
      refine (CallsIn.inRound l (callsIn_wide.2 (OT.out _))).mono ?_
      rintro e w2 ⟨rfl, e2⟩
      rw [e2]
      clear e2 w2)
    rw [← HPP.out]
    rw [← HPP.out] at HR
    exact HR.out
  case done =>
    rintro D W gf gl gt mm st last t' hD ⟨rfl, ⟨f', h1, h2⟩, hk, hg, rfl⟩ hE hK
    have hall : ∀ e ∈ t'.toL, (f (bk e.2.2)).mk' = f' (bk e.2.2) := fun e he => by
      have h3 : nx st last t'.toL = none := by
        cases hq : nx st last t'.toL with
        | none => rfl
        | some x =>
          obtain ⟨b, k, v⟩ := x
          exact absurd rfl (hE b k v hq).1
      rw [nx_cmg, List.find?_eq_none] at h3
      have h4 : cmg st last e = false := by simpa using h3 e he
      have := h2 e he
      rw [h4] at this
      exact this.symm
    have Z2 := h1.congr (g := fun j => (f j).mk') hall
    have Z3 := hid (Z2.mark true)
    obtain ⟨x0, x1, x2, x3⟩ := cells4 Z2.tb.blk
    have yf : ∀ j, W.frozen? ⟨p, j, none⟩ = false := fun j => free_of_block Z2.tb.blk
    have plt := (Z1.lt).1
    have NN := hid (And.intro hk (And.intro hD (And.intro hK (And.intro BB.out plt))))
    clear hg hE Z1 hi HZ HI BB hD hK h1 h2 hk hall Z2 plt
    simp only [Exit.inBlock, Exit.then]
    go_wp2
    obtain ⟨hk, hD, hK, hBB, plt⟩ := NN.out
    refine ⟨by simp, .inl ⟨_, _, rfl, run_takeDeferred (hp_set hK (show D ≠ p by omega) _), ?_⟩⟩
    refine ⟨_, results_tmp rfl _ _ _, ?_⟩
    rw [← HP.out]
    have k1 : Kept (fun j => j = p ∨ ∃ e ∈ t'.toL, j = bk e.2.2) w W := ((Kept.ofBelow hBB).mono (fun _ _ e => e.elim)).trans hk (fun _ _ e => .inr e)
    have hsz := hBB.size
    have k2 := (k1.setCell (p := ⟨p, 3, none⟩) (fun _ => .inl rfl) (.bool true)).trans (kept_put _ D (.deferred none)) (fun i hi e => by omega)
    refine ⟨rfl, ?_, k2⟩
    exact Z3.out.puto (hp_set hK (show D ≠ p by omega) _ (p := ⟨p, 3, none⟩)) rfl _
  case stop =>
    rintro D W hD h hK
    exact h.elim

end Go.Proofs.Ythjggbcppgbdoab

namespace Go.Proofs.Ythjggbcppgbdoab
open Go.RowKit

/-- The least text above another. -/
def bhd (s : ByteArray) : ByteArray := s ++ ⟨#[0]⟩

theorem bl_behind : ∀ (s x : List UInt8), Op.bytesLess x (s ++ [0]) = !Op.bytesLess s x
  | [], [] => rfl
  | [], b :: x => by simp [Op.bytesLess]
  | a :: s, [] => by simp [Op.bytesLess]
  | a :: s, b :: x => by
    rw [List.cons_append, Op.bytesLess, Op.bytesLess, bl_behind s x]
    by_cases h1 : b < a
    · have h2 : ¬ a < b := fun h => absurd (UInt8.lt_trans h1 h) (UInt8.lt_irrefl _)
      have h3 : ¬ a = b := fun h => by subst h; exact UInt8.lt_irrefl _ h1
      simp [h1, h2, h3]
    · by_cases h2 : a < b
      · have h3 : ¬ b = a := fun h => by subst h; exact UInt8.lt_irrefl _ h2
        simp [h1, h2, h3]
      · have h3 : a = b := UInt8.le_antisymm (UInt8.not_lt.1 h1) (UInt8.not_lt.1 h2)
        subst h3
        simp [h1]

theorem kl_behind (s k : ByteArray) : kl k (bhd s) = !kl s k := by
  unfold kl bhd
  rw [show (s ++ (⟨#[0]⟩ : ByteArray)).toList = s.toList ++ [0] from by simp [Lib.toList_data]]
  exact bl_behind _ _

theorem bhd_size (s : ByteArray) : (bhd s).size = s.size + 1 := by
  unfold bhd
  simp [ByteArray.size_append]
  rfl

set_option maxRecDepth 100000 in
set_option maxHeartbeats 800000 in
theorem behind_any (s : ByteArray) (w : World) (h : s.size ≤ 281474976710000) : Calls Try.prog 33 #[.string s] w fun x w' => x = .returned (.string (bhd s)) ∧ w' = w := by
  have hs : (s ++ (⟨#[0]⟩ : ByteArray)).size = s.size + 1 := bhd_size s
  go_enter Try.func33, Try.ntmps33
  go_wp2
  go_ret
  exact ⟨rfl, rfl⟩

/-- What an iterator of the store asks of its search and of the loop's body: I ahead of the search, R behind it, J at the end. -/
structure BodyS (FN : Nat) (lb : Array Value) (Y : Nat) (caps : Array Value) (g2 : Nat) (I : Nat → ByteArray → World → Prop) (R : Nat → ByteArray → Int → World → Prop) (J : World → Prop) : Prop where
  bx : ∀ {m frm w}, I m frm w → w.heap[g2]? = some (.cells #[.func (.func FN) #[] lb] 91 (0, 0))
  fnd : ∀ {m frm w}, I m frm w → Calls Try.prog FN (#[.string frm] ++ lb) w fun x w' => (∃ k v, x = .returned (.tuple #[.string k, .int .i64 v, .bool false]) ∧ J w') ∨ ∃ k v, x = .returned (.tuple #[.string k, .int .i64 v, .bool true]) ∧ R m k v w'
  sz : ∀ {m k v w}, R m k v w → k.size ≤ 281474976710000
  run : ∀ {m k v w}, R m k v w → Calls Try.prog Y (#[.string k, .int .i64 v] ++ caps) w fun x w' => (x = .returned (.bool false) ∧ J w') ∨ (x = .returned (.bool true) ∧ ∃ m', m' < m ∧ I m' (bhd k) w')

def RS (I : Nat → ByteArray → World → Prop) (v : Value) (w : World) (m : Nat) : Prop := ∃ frm, v = .string frm ∧ I m frm w

set_option maxRecDepth 100000 in
set_option maxHeartbeats 4000000 in
theorem iterS {FN : Nat} {lb : Array Value} {Y : Nat} {caps : Array Value} {g1 g2 : Nat} {I : Nat → ByteArray → World → Prop} {R : Nat → ByteArray → Int → World → Prop} {J : World → Prop} (H : BodyS FN lb Y caps g2 I R J) (eF : ∀ args w, (callFunc FN args).run Try.prog w = .ok (.enter FN args) w) (eY : ∀ args w, (callFunc Y args).run Try.prog w = .ok (.enter Y args) w)
    (m0 : Nat) (first : ByteArray) (w : World) (h0 : I m0 first w) (hg : Bx w g1 first) :
    Calls Try.prog 51 #[.func (.func Y) #[] caps, .pointer (some ⟨g1, 0, none⟩), .pointer (some ⟨g2, 0, none⟩)] w fun x w' => x = .returned (.tuple #[]) ∧ J w' := by
  have c1 := cells1 hg
  have HH := hid H
  have H0 := hid h0
  generalize hP : (fun (x : Ending) (w' : World) => x = .returned (.tuple #[]) ∧ J w') = P
  have HP := hid hP
  clear hP H h0 hg
  go_enter Try.func51, Try.ntmps51
  go_wp2
  go_loopw [4] (fun i wr => ∃ m, Hid (RS I i wr m)) (fun i wr => Classical.epsilon (fun m => RS I i wr m ∧ ∀ j, RS I i wr j → m ≤ j))
  case atStart => exact ⟨m0, hid ⟨first, rfl, H0.out⟩⟩
  case round =>
    obtain ⟨m1, h1⟩ := hrel
    have hsp := eps_spec ⟨m1, h1.out⟩
    generalize hmm : Classical.epsilon (fun m => RS I _ wr m ∧ ∀ j, RS I _ wr j → m ≤ j) = mm at hsp ⊢
    have HMM := hid hmm
    obtain ⟨⟨frm, rfl, hI⟩, -⟩ := hsp
    have c2 := cells1 (HH.out.bx hI)
    have FD := hid (HH.out.fnd hI)
    clear hI h1 hmm H0
    go_wp2_with (first
      | (go_at_call 33
         refine (BH.out _).mono ?_
         rintro e w3 ⟨rfl, e3⟩
         rw [e3]
         clear e3 w3)
      | (refine FD.out.mono ?_
         rintro e w2 (⟨k, v, rfl, hJ⟩ | ⟨k, v, rfl, hR⟩)
         all_goals first
           | (have J2 := hid hJ
              clear hJ FD)
           | (have BH := hid (fun W => behind_any k W (HH.out.sz hR))
              have RN := hid (HH.out.run hR)
              clear hR FD))
      | (refine RN.out.mono ?_
         rintro e w4 (⟨rfl, hJ⟩ | ⟨rfl, hN⟩)
         all_goals first
           | (have J4 := hid hJ
              clear hJ RN)
           | (have N4 := hid hN
              clear hN RN)))
    · refine bodyPost_ret (results_none rfl _ _ _) rfl ?_
      rw [← HP.out]
      exact ⟨rfl, J2.out⟩
    · refine bodyPost_ret (results_none rfl _ _ _) rfl ?_
      rw [← HP.out]
      exact ⟨rfl, J4.out⟩
    · obtain ⟨m', hlt, hI'⟩ := N4.out
      go_roundw
      case rel => exact ⟨m', hid ⟨_, rfl, hI'⟩⟩
      case measure =>
        exact Nat.lt_of_le_of_lt ((eps_spec (R := RS I _ w4) ⟨m', _, rfl, hI'⟩).2 m' ⟨_, rfl, hI'⟩) (Nat.lt_of_lt_of_eq hlt HMM.out.symm)

end Go.Proofs.Ythjggbcppgbdoab

namespace Go.Proofs.Ythjggbcppgbdoab
open Go.RowKit

/-- An iterator of the store. -/
abbrev itS (g1 g2 : Nat) : Value := .func (.func 51) #[] #[.pointer (some ⟨g1, 0, none⟩), .pointer (some ⟨g2, 0, none⟩)]

set_option maxRecDepth 100000 in
set_option maxHeartbeats 800000 in
theorem steps53 (first : ByteArray) (FN : Nat) (lb : Array Value) (w : World) : Calls Try.prog 32 #[.string first, .func (.func FN) #[] lb] w fun x w' => x = .returned (itS w.heap.size (w.heap.size + 1)) ∧ Bx w' w.heap.size first ∧ w'.heap[w.heap.size + 1]? = some (.cells #[.func (.func FN) #[] lb] 91 (0, 0)) ∧ Below w.heap.size w w' := by
  have hmf : ∀ (fn : Fn) (first cap : Array Value) (w : World), (Instr.makeFunc fn first cap).run Try.prog w = .ok (.func fn first cap) w := fun _ _ _ _ => rfl
  go_enter Try.func32, Try.ntmps32
  go_wp2
  go_ret
  obtain ⟨h1, h2, h3⟩ := two' w (.cells #[.string first] 9) (.cells #[.func (.func FN) #[] lb] 91)
  exact ⟨rfl, h1, h2, h3⟩

/-- What Snapshot's value holds. -/
structure SnB (w : World) (g1 g2 gp : Nat) (o : Option Addr) (first : ByteArray) : Prop where
  f : Bx w g1 first
  s : w.heap[g2]? = some (.cells #[.func (.func 34) #[] #[.pointer (some ⟨gp, 0, none⟩)]] 91 (0, 0))
  p : w.heap[gp]? = some (.cells #[.pointer o] 36 (0, 0))

set_option maxRecDepth 100000 in
set_option maxHeartbeats 800000 in
theorem ssnap_any (o : Option Addr) (above : ByteArray) (w : World) (h1 : above.size ≤ 281474976710000) :
    Calls Try.prog 13 #[.pointer o, .string above] w fun x w' => ∃ g1 g2 gp, x = .returned (itS g1 g2) ∧ SnB w' g1 g2 gp o (bhd above) ∧ Below w.heap.size w w' ∧ w.heap.size ≤ g1 ∧ w.heap.size ≤ g2 ∧ w.heap.size ≤ gp := by
  have hmf : ∀ (fn : Fn) (first cap : Array Value) (w : World), (Instr.makeFunc fn first cap).run Try.prog w = .ok (.func fn first cap) w := fun _ _ _ _ => rfl
  have B1 := hid (fun W => behind_any above W h1)
  have ST := hid (fun W => steps53 (bhd above) 34 #[.pointer (some ⟨w.heap.size, 0, none⟩)] W)
  clear h1
  go_enter Try.func13, Try.ntmps13
  go_wp2_with (first
    | (go_at_call 33
       refine (B1.out _).mono ?_
       rintro e w1 ⟨rfl, e1⟩
       rw [e1]
       clear e1 w1)
    | (go_at_call 32
       refine (ST.out _).mono ?_
       rintro e w3 ⟨rfl, q1, q2, hb⟩
       have H3 := hid (And.intro q1 (And.intro q2 hb))
       clear q1 q2 hb))
  go_ret
  obtain ⟨q1, q2, hb3⟩ := H3.out
  rw [World.size_alloc] at q1 q2
  have b1 := below_new w (.cells #[.pointer o] 36)
  have t1 := hp_new w (.cells #[.pointer o] 36)
  exact ⟨_, _, w.heap.size, rfl, ⟨q1, q2, hp_below t1 hb3 (hp_lt t1)⟩, below_on b1 hb3, by omega, by omega, Nat.le_refl _⟩

abbrev noV : Value := .tuple #[.string ⟨#[]⟩, .int .i64 0, .bool false]

set_option maxRecDepth 100000 in
set_option maxHeartbeats 800000 in
theorem find57 (o : Option Addr) (frm : ByteArray) (gp : Nat) (k : ByteArray) (i : Int) (q : Bool) (w : World) (hp : w.heap[gp]? = some (.cells #[.pointer o] 36 (0, 0)))
    (hM : Calls Try.prog 35 #[.pointer o] w fun x w' => x = .returned (.bool true) ∧ w' = w)
    (hL : Calls Try.prog 36 #[.pointer o, .string frm, .string ⟨#[]⟩, .func (.func 37) #[] #[]] w fun x w' => x = .returned (.tuple #[.string k, .int .i64 i, .bool q]) ∧ Below w.heap.size w w') :
    Calls Try.prog 34 #[.string frm, .pointer (some ⟨gp, 0, none⟩)] w fun x w' => x = .returned (.tuple #[.string k, .int .i64 i, .bool q]) ∧ Below w.heap.size w w' := by
  have c1 := cells1 hp
  have LL := hid hL
  have MM := hid hM
  clear hL hp hM
  go_enter Try.func34, Try.ntmps34
  go_wp2_with (first
    | (go_at_call 35
       refine MM.out.mono ?_
       rintro e w1 ⟨rfl, e1⟩
       rw [e1]
       clear e1 w1)
    | (go_at_call 36
       refine LL.out.mono ?_
       rintro e w1 ⟨rfl, hb⟩
       have B1 := hid hb
       clear hb))
  go_ret3
  exact ⟨rfl, B1.out⟩

set_option maxRecDepth 100000 in
set_option maxHeartbeats 800000 in
theorem find57_no (o : Option Addr) (frm : ByteArray) (gp : Nat) (w : World) (hp : w.heap[gp]? = some (.cells #[.pointer o] 36 (0, 0)))
    (hM : Calls Try.prog 35 #[.pointer o] w fun x w' => x = .returned (.bool false) ∧ w' = w) :
    Calls Try.prog 34 #[.string frm, .pointer (some ⟨gp, 0, none⟩)] w fun x w' => x = .returned noV ∧ Below w.heap.size w w' := by
  have c1 := cells1 hp
  have MM := hid hM
  clear hp hM
  go_enter Try.func34, Try.ntmps34
  go_wp2_with (
    go_at_call 35
    refine MM.out.mono ?_
    rintro e w1 ⟨rfl, e1⟩
    rw [e1]
    clear e1 w1)
  go_region
  go_wp2
  go_ret3
  exact ⟨rfl, (below_new _ _).drew⟩

theorem sdone_idle (p : Nat) (t : Tr) (f : Nat → Sd) (c : Int) (w : World) (h : ZS w p t f c false) : Calls Try.prog 16 #[.pointer (some ⟨p, 0, none⟩)] w fun x w' => x = .returned (.int .i64 19) ∧ w' = w := by
  obtain ⟨y0, y1, y2, y3⟩ := cells4 h.tb.blk
  clear h
  go_enter Try.func16, Try.ntmps16
  go_wp2
  go_ret
  exact ⟨rfl, rfl⟩

theorem smark_busy (p : Nat) (t : Tr) (f : Nat → Sd) (c : Int) (w : World) (h : ZS w p t f c true) : Calls Try.prog 11 #[.pointer (some ⟨p, 0, none⟩)] w fun x w' => x = .returned (.int .i64 18) ∧ w' = w := by
  obtain ⟨y0, y1, y2, y3⟩ := cells4 h.tb.blk
  clear h
  go_enter Try.func11, Try.ntmps11
  go_wp2
  go_ret
  exact ⟨rfl, rfl⟩

theorem znil_done (w : World) : Calls Try.prog 16 #[.pointer none] w fun x w' => x = .returned (.int .i64 1) ∧ w' = w := by
  go_enter Try.func16, Try.ntmps16
  go_wp2
  go_ret
  exact ⟨rfl, rfl⟩

set_option maxRecDepth 100000 in
set_option maxHeartbeats 800000 in
/-- Done, where every slot has something to be read. -/
theorem sdone_calm (p : Nat) (t : Tr) (f : Nat → Sd) (c : Int) (w : World) (h : ZS w p t f c true) (hs : ∀ e ∈ t.toL, (see false (f (bk e.2.2))).2 = true) :
    Calls Try.prog 16 #[.pointer (some ⟨p, 0, none⟩)] w fun x w' => x = .returned (.int .i64 0) ∧ ZS w' p t f c false ∧ Kept (fun j => j = p) w w' := by
  obtain ⟨y0, y1, y2, y3⟩ := cells4 h.tb.blk
  have yf : ∀ j, w.frozen? ⟨p, j, none⟩ = false := fun j => free_of_block h.tb.blk
  have Z := hid (h.mark false)
  have SW := hid (sweep_calm p t f c false _ (h.mark false) hs)
  clear h hs
  go_enter Try.func16, Try.ntmps16
  go_wp2_with (
    go_at_call 30
    refine SW.out.mono ?_
    rintro e w1 ⟨rfl, hb⟩
    have B1 := hid hb
    clear hb)
  go_ret
  refine ⟨rfl, Z.out.below B1.out, ?_⟩
  exact ((Kept.refl (fun j => j = p) w).setCell (p := ⟨p, 3, none⟩) (fun _ => rfl) (.bool false)).trans (Kept.ofBelow B1.out) (fun _ _ e => e.elim)

end Go.Proofs.Ythjggbcppgbdoab
