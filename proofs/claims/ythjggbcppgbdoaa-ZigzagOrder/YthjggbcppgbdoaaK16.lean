import Derived.Test.YthjggbcppgbdoaaK15
import Derived.Maps.AppendAt
namespace Go.Proofs.Ythjggbcppgbdoaa
open Go.RowKit

attribute [local go_sem] Oper.semAt_some

theorem Try.info9 : (Try.prog.info? 9).map (fun i => (i.zero, i.size, i.bytes)) = some (some (.string ⟨#[]⟩), 1, 16) := by kernel_rfl

/-- Those that were passed and have nothing to be read. -/
def emp (f : Nat → Sd) (l : List En) (st : Bool) (last : ByteArray) : List ByteArray := (l.filter (fun e => !cmg st last e && !(see false (f (bk e.2.2))).2)).map (fun e => e.2.1)

theorem emp_on {f : Nat → Sd} {l : List En} {st : Bool} {last : ByteArray} {b : Nat} {k : ByteArray} {v : Value} (hr : Rises l) (hq : nx st last l = some (b, k, v)) : emp f l true k = emp f l st last ++ (if (see false (f (bk v))).2 then [] else [k]) := by
  have hq2 := hq
  rw [nx_cmg] at hq2
  obtain ⟨hp, l1, l2, rfl, has⟩ := List.find?_eq_some_iff_append.1 hq2
  obtain ⟨h1, h2, h3⟩ := find_first hr hq2
  have e1 : ∀ e ∈ l1, cmg st last e = false ∧ cmg true k e = false := fun e he => by
    have q1 : cmg st last e = false := by simpa using has e he
    refine ⟨q1, ?_⟩
    cases hk : cmg true k e
    · rfl
    · rw [cmg_up (k := k) h2 hk] at q1; cases q1
  have e2 : ∀ e ∈ l2, cmg st last e = true ∧ cmg true k e = true := fun e he => by
    have hk : kl k e.2.1 = true := (List.pairwise_cons.1 (List.pairwise_append.1 hr).2.1).1 e he
    exact ⟨cmg_up (k := k) h2 hk, hk⟩
  have hk0 : cmg true k (b, k, v) = false := kl_irrefl k
  have hp' : cmg st last (b, k, v) = true := hp
  unfold emp
  rw [List.filter_append, List.filter_append, List.filter_cons, List.filter_cons]
  have q2 : l2.filter (fun e => !cmg true k e && !(see false (f (bk e.2.2))).2) = [] := List.filter_eq_nil_iff.2 (fun e he => by rw [(e2 e he).2]; simp)
  have q3 : l2.filter (fun e => !cmg st last e && !(see false (f (bk e.2.2))).2) = [] := List.filter_eq_nil_iff.2 (fun e he => by rw [(e2 e he).1]; simp)
  have q1 : l1.filter (fun e => !cmg true k e && !(see false (f (bk e.2.2))).2) = l1.filter (fun e => !cmg st last e && !(see false (f (bk e.2.2))).2) := List.filter_congr (fun e he => by rw [(e1 e he).1, (e1 e he).2])
  rw [q1, q2, q3, hk0, hp']
  cases hs : (see false (f (bk v))).2
  · simp
  · simp

theorem emp_len (f : Nat → Sd) (l : List En) (st : Bool) (last : ByteArray) : (emp f l st last).length ≤ l.length := by
  unfold emp
  rw [List.length_map]
  exact List.length_filter_le _ _

/-- Between two rounds of sweep's first loop. -/
def SI (w1 : World) (r0 : Nat) (f : Nat → Sd) (t : Tr) : Nat → Nat → Nat → Nat → Bool → ByteArray → Tr → World → Prop :=
  fun gf gl gt mm st last t' W => t' = t ∧ mm = ahd st last t.toL ∧ Kept (fun j => j = r0) w1 W ∧ ∃ B v, (w1.heap.size ≤ B ∧ B ≤ W.heap.size ∧ (w1.heap.size ≤ gf ∧ gf < B) ∧ (w1.heap.size ≤ gl ∧ gl < B) ∧ (w1.heap.size ≤ gt ∧ gt < B)) ∧ W.heap[r0]? = some (.cells #[v] 65 (0, 0)) ∧ W.ownsRow B 9 1 v (emp f t.toL st last).length ((emp f t.toL st last).map .string)

theorem owns_cells {W : World} {B : Nat} {e : TypeId} {size : Nat} {v : Value} {n : Nat} {xs : List Value} (h : W.ownsRow B e size v n xs) : ∀ k, v.ownBlock = some k → ∃ cs, W.heap[k]? = some (.cells cs e (0, 0)) := by
  intro k hk
  rcases h.2 with ⟨rfl, _⟩ | ⟨g, cap, cur, rfl, hb, hg, _⟩
  · simp [Value.ownBlock] at hk
  · simp [Value.ownBlock] at hk
    subst hk
    exact ⟨cur, hg⟩

theorem zs_off {w1 W : World} {p : Nat} {t : Tr} {f : Nat → Sd} {c : Int} {m : Bool} {r0 : Nat} {v : Value} (hz : ZS w1 p t f c m) (hr : w1.heap[r0]? = some (.cells #[v] 65 (0, 0))) (hk : Kept (fun j => j = r0) w1 W) : ZS W p t f c m := by
  have hn := tb_not hz.tb hr (by decide)
  refine hz.kept hk (fun e => hn.1 e.symm) (fun i hi e => hn.2 (e ▸ hi)) (fun e he q => ?_)
  obtain ⟨b, q1, q2⟩ := hz.sl e he
  rw [q1] at q
  have q' : b = r0 := q
  subst q'
  have q3 : w1.heap[b]? = _ := q2
  rw [hr] at q3
  cases q3

theorem sweepI {w1 : World} {p g1 g2 g3 r0 : Nat} {f : Nat → Sd} {frm to : ByteArray} {t : Tr} {c : Int} {m : Bool} {v0 : Value} (hz : ZS w1 p t f c m) (hi : It w1 g1 g2 g3 (some ⟨p, 0, none⟩) frm to) (hr : w1.heap[r0]? = some (.cells #[v0] 65 (0, 0))) :
    RangeI w1.heap.size (some ⟨p, 0, none⟩) frm to g1 g2 g3 (SI w1 r0 f t) (fun _ => False) := by
  refine ⟨?_, ?_, ?_, fun h _ _ => h⟩
  · rintro gf gl gt mm st last t' W ⟨rfl, -, hk, -⟩
    exact ⟨.inr ⟨p, _, rfl, (zs_off hz hr hk).tb⟩, fun e he => hz.sh e he⟩
  · rintro gf gl gt mm st last t' W ⟨rfl, -, hk, -⟩
    refine it_kept hi hk ?_ ?_ ?_
    · rintro rfl; have := hi.t; rw [hr] at this; cases this
    · rintro rfl; have := hi.f; rw [Bx, hr] at this; cases this
    · rintro rfl; have := hi.e; rw [Bx, hr] at this; cases this
  · rintro gf gl gt mm st last t' W W' S ⟨rfl, hm, hk, B, v, ⟨b1, b2, b3, b4, b5⟩, h1, h2⟩ hk' hS
    have hl := hp_lt hr
    have hS' : ∀ k, S k → w1.heap.size ≤ k := fun k hs => by
      rcases hS k hs with e | e | e | ⟨e, -⟩ <;> omega
    refine ⟨rfl, hm, hk.trans hk' (fun i hi hs => by have := hS' i hs; omega), B, v, ⟨b1, Nat.le_trans b2 hk'.size, b3, b4, b5⟩, hp_kept h1 hk' (fun e => by have := hS' _ e; omega), ownsRow_kept h2 hk' (fun k hk2 hs => ?_)⟩
    have q1 := (h2.lt k hk2).1
    obtain ⟨cs, q2⟩ := owns_cells h2 k hk2
    rcases hS k hs with e | e | e | ⟨e, ob, ho, hc⟩
    · omega
    · omega
    · omega
    · rw [q2] at ho
      cases ho
      cases hc

/-- What is struck out, key by key. -/
def dels (ks : List ByteArray) (l : List En) : List En := ks.foldl (fun l k => del k l) l
theorem dels_snoc (ks : List ByteArray) (k : ByteArray) (l : List En) : dels (ks ++ [k]) l = del k (dels ks l) := by
  unfold dels
  rw [List.foldl_append]
  rfl
def inK (ks : List ByteArray) (k : ByteArray) : Bool := ks.any (fun x => k.toList == x.toList)
theorem inK_iff {ks : List ByteArray} {k : ByteArray} : inK ks k = true ↔ k ∈ ks := by
  unfold inK
  rw [List.any_eq_true]
  constructor
  · rintro ⟨x, hx, e⟩
    rw [keq_iff.1 e]
    exact hx
  · intro h
    exact ⟨k, h, by simp⟩
theorem dels_filter (ks : List ByteArray) : ∀ l : List En, dels ks l = l.filter (fun e => !inK ks e.2.1) := by
  induction ks with
  | nil => intro l; exact (List.filter_eq_self.2 (fun _ _ => rfl)).symm
  | cons k ks ih =>
    intro l
    show dels ks (del k l) = _
    rw [ih]
    unfold del
    rw [List.filter_filter]
    refine List.filter_congr (fun e _ => ?_)
    have : inK (k :: ks) e.2.1 = ((e.2.1.toList == k.toList) || inK ks e.2.1) := rfl
    rw [this]
    cases (e.2.1.toList == k.toList) <;> cases inK ks e.2.1 <;> rfl

theorem dels_emp {f : Nat → Sd} {l : List En} {st : Bool} {last : ByteArray} (hr : Rises l) (hc : ∀ e ∈ l, cmg st last e = false) : dels (emp f l st last) l = l.filter (fun e => (see false (f (bk e.2.2))).2) := by
  rw [dels_filter]
  refine List.filter_congr (fun e he => ?_)
  cases hs : (see false (f (bk e.2.2))).2
  · have : e.2.1 ∈ emp f l st last := List.mem_map.2 ⟨e, List.mem_filter.2 ⟨he, by rw [hc e he, hs]; rfl⟩, rfl⟩
    rw [inK_iff.2 this]
    rfl
  · have : ¬ e.2.1 ∈ emp f l st last := fun hm => by
      obtain ⟨e', h1, h2⟩ := List.mem_map.1 hm
      obtain ⟨h3, h4⟩ := List.mem_filter.1 h1
      have := rises_blk_key hr h3 he h2
      subst this
      rw [hs] at h4
      simp at h4
    have h5 : inK (emp f l st last) e.2.1 = false := by
      cases h6 : inK (emp f l st last) e.2.1
      · rfl
      · exact absurd (inK_iff.1 h6) this
    rw [h5]
    rfl

/-- The table's Delete, in a store. -/
theorem tdel_any {p : Nat} {key : ByteArray} {t : Tr} {f : Nat → Sd} {c : Int} {m : Bool} {w : World} (h : ZS w p t f c m) (hn : t.n ≤ 600000) :
    Calls Try.prog 51 #[.pointer (some ⟨p, 0, none⟩), .string key] w fun x w' => ∃ u, x = .returned u ∧ Hid (∃ t', t'.toL = del key t.toL ∧ ZS w' p t' f c m ∧ Kept (fun j => j = p ∨ j ∈ t.bs) w w') := by
  cases hq : ent key t.toL with
  | none =>
    refine (delete_none (some ⟨p, 0, none⟩) key t w (.inr ⟨p, _, rfl, h.tb⟩) hq).mono ?_
    rintro x w' ⟨rfl, hb⟩
    exact ⟨_, rfl, hid ⟨t, (del_none (ent_none hq)).symm, h.below hb, (Kept.ofBelow hb).mono (fun _ _ e => e.elim)⟩⟩
  | some e0 =>
    obtain ⟨b, k, v⟩ := e0
    refine (delete_some p key t w h.tb hn hq).mono ?_
    rintro x w' ⟨t', rfl, hd⟩
    exact ⟨_, rfl, hid ⟨t', hd.ls, h.del hd, hd.kp⟩⟩

end Go.Proofs.Ythjggbcppgbdoaa

namespace Go.Proofs.Ythjggbcppgbdoaa
open Go.RowKit

attribute [local go_sem] Oper.semAt_some

/-- What sweep leaves. -/
def SweepP (w : World) (p : Nat) (t : Tr) (f : Nat → Sd) (c : Int) (m : Bool) : Ending → World → Prop := fun x w' => x = .returned (.tuple #[]) ∧ ∃ t', t'.toL = t.toL.filter (fun e => (see false (f (bk e.2.2))).2) ∧ ZS w' p t' f c m ∧ Kept (fun j => j = p ∨ j ∈ t.bs) w w'

set_option maxRecDepth 100000 in
set_option maxHeartbeats 4000000 in
theorem sweep_any (p : Nat) (t : Tr) (f : Nat → Sd) (c : Int) (m : Bool) (w : World) (h : ZS w p t f c m) (hn : t.n ≤ 600000) :
    Calls Try.prog 59 #[.pointer (some ⟨p, 0, none⟩)] w (SweepP w p t f c m) := by
  have RG := hid (fun W => range_any (some ⟨p, 0, none⟩) ⟨#[]⟩ ⟨#[]⟩ W (by decide) (by decide))
  have HZ := hid h
  have HN := hid hn
  generalize hP : SweepP w p t f c m = P
  have HP := hid hP
  clear hP h hn
  refine (callsIn_wide (n := 9)).1 (callsIn_of_wp_marks Try.func59 rfl trivial (wpIn_wide.2 ?_))
  simp only [Try.ntmps59, List.size_toArray, List.length_cons, List.length_nil, Nat.reduceAdd, Nat.reduceSub, Array.replicate_succ, Array.replicate_zero, List.push_toArray, List.append_toArray, List.nil_append, List.cons_append]
  go_wp2_with (
    go_at_call 60
    refine (RG.out _).mono ?_
    rintro e w1 ⟨g1, g2, g3, rfl, hi, hb, q1, q2, q3⟩
    have N1 := hid (And.intro hi hb)
    clear hi hb q1 q2 q3)
  have a0 := hp_new w (Obj.cells #[Value.slice none 0 0] 65)
  have ab := below_new w (Obj.cells #[Value.slice none 0 0] 65)
  obtain ⟨hi, hb⟩ := N1.out
  clear N1 RG
  have d0 := hp_below a0 hb (hp_lt a0)
  have BB := hid (below_on ab hb)
  clear a0 ab hb
  have Z1 := HZ.out.below BB.out
  have HI := hid (sweepI Z1 hi d0)
  have hw0 := BB.out.size
  have l0 := hp_lt d0
  generalize hr0e : w.heap.size = r0 at d0 l0 hw0 HI ⊢
  refine rangeY (o := some ⟨p, 0, none⟩) (frm := ⟨#[]⟩) (to := ⟨#[]⟩) (g1 := g1) (g2 := g2) (g3 := g3) rfl rfl (I := SI w1 r0 f t) (Ix := fun _ => False) HI.out (ahd false ⟨#[]⟩ t.toL) t hi
    (fun gf gl gt w2 hb q1 q2 q3 hs => ⟨rfl, rfl, (Kept.ofBelow hb).mono (fun _ _ e => e.elim), w2.heap.size, .slice none 0 0, ⟨hb.size, Nat.le_refl _, ⟨q1, hp_lt hs.f⟩, ⟨q2, hp_lt hs.l⟩, ⟨q3, hp_lt hs.t⟩⟩, hp_below d0 hb l0, by
      have e : emp f t.toL false ⟨#[]⟩ = [] := by
        unfold emp
        rw [List.map_eq_nil_iff, List.filter_eq_nil_iff]
        intro e he
        unfold cmg
        simp [kl_empty]
      rw [e]
      exact World.ownsRow_nil _ _ _ _⟩)
    (fun k v => { tmps := #[.pointer (some ⟨p, 0, none⟩), undef, .pointer (some ⟨r0, 0, none⟩), .string k, v, undef, undef, undef, undef, .pointer (some ⟨p, 0, none⟩), .pointer (some ⟨p, 0, none⟩), .pointer (some ⟨p, 0, none⟩), itV g1 g2 g3, .string k, v, undef, undef, undef, undef, undef, undef, undef, undef, undef, undef, undef, undef, undef, undef, undef, undef, undef, undef, undef, undef, undef, undef, undef], defers := [] }) ?assign ?body ?done ?stop
  case assign =>
    intro n l k v W K hK
    gi_wp2
    exact hK
  case body =>
    rintro n l gf gl gt mm st last t' W b k v ⟨rfl, rfl, hk, B, vr, hB, h1, h2⟩ hq ht
    have Z2 := zs_off Z1 d0 hk
    obtain ⟨sb, rfl, hsl⟩ := Z2.slot (nx_mem hq)
    have SE := hid (seeR_any sb (f sb) W hsl)
    have eo := emp_on (f := f) Z1.tb.rs hq
    have hbk : bk (Value.pointer (some ⟨sb, 0, none⟩)) = sb := rfl
    rw [hbk] at eo
    have hel := emp_len f t'.toL st last
    have htn : t'.toL.length ≤ 600000 := HN.out
    have c0 := cells1 h1
    have f0 : ∀ j, W.frozen? ⟨r0, j, none⟩ = false := fun j => free_of_block h1
    have NN := hid (And.intro hk (And.intro hB (And.intro h1 (And.intro h2 (And.intro hq (And.intro eo l0))))))
    generalize hPP : RangePost w1.heap.size gf gl gt (ahd st last t'.toL) k (SI w1 r0 f t') (fun _ => False) W = PP
    have HPP := hid hPP
    have HL := hid (And.intro hel htn)
    clear hPP hk hB h1 hq ht hsl Z2 hi HZ HI Z1 BB l0 hr0e hw0 eo hel htn d0 hbk
    cases hs : (see false (f sb)).2
    · have HS := hid hs
      rw [hs] at SE
      clear hs
      have HR := hid h2
      obtain ⟨i0, hi0, hz0, hz1, hz2⟩ := info_parts Try.info9
      have II := hid (And.intro hi0 (And.intro hz0 (And.intro hz1 hz2)))
      clear h2 hi0 hz0 hz1 hz2
      have hle : (emp f t'.toL st last).length ≤ 600000 := by have := HL.out; omega
      generalize hks : emp f t'.toL st last = ks at HR hle
      have KS := hid hks
      clear hks
      gi_wp2_with (first
        | (refine ⟨trivial, fun hd => (by cases hd), ?_⟩
           gi_at_call 49
           refine (CallsIn.inRound l (callsIn_wide.2 SE.out)).mono ?_
           rintro e w2 ⟨rfl, n2, e2⟩
           rw [e2]
           clear e2 w2)
        | (gi_at_builtin
           refine wpListIn_append_own _ rfl _ _ 65 rfl B 9 i0 (.string ⟨#[]⟩) 1 16 Try.underlying65 II.out.1 II.out.2.1 II.out.2.2.1 II.out.2.2.2 rfl (by decide) _ _ _ rfl ((ownsRow_kept HR.out (Kept.ofBelow (blw_drewN (Below.refl _ W) (n := n2))) (fun _ _ h => h)).alloc _) ⟨W.heap.size, 0, none⟩ 1 1 [.string k] rfl rfl (cell_one_new _ _ _) (by simp [Value.oneCell']) (by unfold maxLen; omega) (by omega) (by have := NN.out.2.1; simp; omega) ?_
           intro v' w3 ho3 hg3 _
           obtain ⟨gg, cap', rfl⟩ := ownsRow_succ ho3
           have y3 : w3.heap[r0]? = some (.cells #[vr] 65 (0, 0)) := by
             obtain ⟨hk, hB, h1, h2, hq, eo, l0⟩ := NN.out
             have hl := hp_lt h1
             exact (hg3.block r0 (by simp; omega) (fun e => by have := (h2.lt r0 e.symm).1; omega)).trans (hp_alloc (w := W.drewN n2) h1 _)
           have c3 := cells1 y3
           have f3 : ∀ j, w3.frozen? ⟨r0, j, none⟩ = false := fun j => free_of_block y3
           have N3 := hid (And.intro ho3 (And.intro hg3 y3))
           clear ho3 hg3 y3))
      rw [← HPP.out]
      obtain ⟨hk, ⟨b1, b2, b3, b4, b5⟩, h1, h2, hq, eo, l0⟩ := NN.out
      obtain ⟨ho3, hg3, y3⟩ := N3.out
      have ks' := KS.out
      rw [HS.out] at eo
      simp only [Bool.false_eq_true, if_false] at eo
      have hks2 : emp f t'.toL true k = ks ++ [k] := by rw [eo, ks']
      have kA' : Kept (fun j => vr.ownBlock = some j) W w3 := ((Kept.refl (fun j => vr.ownBlock = some j) W).drewN (n := n2)).alloc (.cells #[.string k] 9) |>.grown hg3 (fun _ _ e => e)
      have kB' := kA'.size
      have gne : ∀ j, w1.heap.size ≤ j → j < B → w3.heap[j]? = W.heap[j]? := fun j q1 q2 => kA'.block j (by omega) (fun e => by have := (h2.lt j e).1; omega)
      have gr : ∀ j, w1.heap.size ≤ j → j ≠ r0 := fun j q e => by omega
      refine ⟨?_, ⟨?_, ?_, ?_⟩, ahd true k t'.toL, t', ahd_less hq, rfl, rfl, ?_, B, .slice (some ⟨gg, 0, none⟩) (ks.length + 1) cap', ⟨b1, by simp; omega, b3, b4, b5⟩, set_block (i := 0) y3 _, ?_⟩
      · refine KeepsFrom.trans ⟨kB', fun j o _ hj ho => ?_⟩ ((KeepsOthers.setCell _ _ _).from _)
        refine (kA'.block j (hp_lt hj) (fun e => ?_)).trans hj
        obtain ⟨cs, q⟩ := owns_cells h2 j e
        rw [q] at hj
        cases hj
        cases ho
      · exact (Below.heap_setCell _ _ _ _ (gr gf b3.1)).trans (gne gf b3.1 b3.2)
      · exact (Below.heap_setCell _ _ _ _ (gr gl b4.1)).trans (gne gl b4.1 b4.2)
      · exact (Below.heap_setCell _ _ _ _ (gr gt b5.1)).trans (gne gt b5.1 b5.2)
      · exact (hk.trans kA' (fun i hi e => by have := (h2.lt i e).1; omega)).setCell (p := ⟨r0, 0, none⟩) (fun _ => rfl) _
      · rw [hks2]
        have e3 : (ks ++ [k]).map Value.string = ks.map Value.string ++ [.string k] := by simp
        rw [e3, List.length_append]
        refine ownsRow_kept ho3 ((Kept.refl (fun j => j = r0) w3).setCell (p := ⟨r0, 0, none⟩) (fun _ => rfl) _) (fun j hj e => ?_)
        have := (ho3.lt j hj).1
        omega
    · have HS := hid hs
      rw [hs] at SE
      clear hs h2
      gi_wp2_with (
        refine ⟨trivial, fun hd => (by cases hd), ?_⟩
        gi_at_call 49
        refine (CallsIn.inRound l (callsIn_wide.2 SE.out)).mono ?_
        rintro e w2 ⟨rfl, n2, e2⟩
        rw [e2]
        clear e2 w2)
      rw [← HPP.out]
      obtain ⟨hk, hB, h1, h2, hq, eo, -⟩ := NN.out
      rw [HS.out] at eo
      simp only [if_true, List.append_nil] at eo
      refine ⟨keepsFrom_drewN _ _ _, ⟨rfl, rfl, rfl⟩, ahd true k t'.toL, t', ahd_less hq, rfl, rfl, hk.drewN, B, vr, hB, h1, ?_⟩
      rw [eo]
      exact ownsRow_kept h2 (Kept.ofBelow (blw_drewN (Below.refl _ _))) (fun _ _ h => h)
  case done =>
    rintro D W gf gl gt mm st last t' hD ⟨rfl, rfl, hk, B, vr, hB, h1, h2⟩ hE hK
    have Z2 := zs_off Z1 d0 hk
    have hall : ∀ e ∈ t'.toL, cmg st last e = false := fun e he => by
      have h3 : nx st last t'.toL = none := by
        cases hq : nx st last t'.toL with
        | none => rfl
        | some x =>
          obtain ⟨b, k, v⟩ := x
          exact absurd rfl (hE b k v hq).1
      rw [nx_cmg, List.find?_eq_none] at h3
      simpa using h3 e he
    have hde := dels_emp (f := f) Z1.tb.rs hall
    have hel := emp_len f t'.toL st last
    have htn : t'.toL.length ≤ 600000 := HN.out
    have hlt := Z1.lt
    generalize emp f t'.toL st last = ks at h2 hde hel
    obtain ⟨ao, cap, ev, -, -⟩ := (rf_of_owns h2 (by intro u hu; obtain ⟨x, -, rfl⟩ := List.mem_map.1 hu; rfl)).shape
    subst ev
    have c0 := cells1 h1
    have hkn : ks.length ≤ 600000 := by omega
    have NN := hid (And.intro hk (And.intro hB (And.intro h1 (And.intro h2 (And.intro hde (And.intro hlt (And.intro hD (And.intro hK (And.intro Z2 (And.intro l0 (And.intro hw0 (And.intro hr0e (And.intro BB.out htn)))))))))))))
    clear hk hB h1 h2 hde hel htn hlt hE hall Z2 hD hK hi HZ HI Z1 BB hr0e hw0 l0 d0
    simp only [Exit.inBlock, Exit.then]
    go_wp2
    go_loopw [28] (fun i wr => ∃ k : Nat, i = .int .i64 k ∧ k ≤ ks.length ∧ Hid (∃ tk, tk.toL = dels (ks.take k) t'.toL ∧ ZS wr p tk f c m ∧ Kept (fun j => j = p ∨ j ∈ t'.bs) W wr)) (fun i _ => ks.length - (intOf i).toNat)
    case atStart => exact ⟨0, rfl, Nat.zero_le _, hid ⟨t', rfl, NN.out.2.2.2.2.2.2.2.2.1, Kept.refl _ _⟩⟩
    case round =>
      obtain ⟨k, rfl, hkl, HT⟩ := hrel
      by_cases h1 : k < ks.length
      · have hx : ∃ g, Value.slice ao ks.length cap = .slice (some ⟨g, 0, none⟩) ks.length cap ∧ wr.cell? ⟨g, k, none⟩ = some (.string ks[k]) := by
          obtain ⟨hk, hB, q1, q2, hde, hlt, -⟩ := NN.out
          rcases q2.2 with ⟨-, h0⟩ | ⟨g, cap', cur, e1, hg, hgc, -, -, -, htk⟩
          · omega
          · injection e1 with e1 e2 e3
            subst e1 e3
            refine ⟨g, rfl, ?_⟩
            obtain ⟨tk, -, -, hkk⟩ := HT.out
            have hgb : wr.heap[g]? = some (.cells cur 9 (0, 0)) := hp_kept hgc hkk (fun e => by
              rcases e with e | e
              · have := hlt.1; omega
              · have := hlt.2.1 g e; omega)
            rw [cell_of_row wr g k _ _ _ hgb]
            have : (cur.toList.take (ks.length * 1))[k]? = some (.string ks[k]) := by
              rw [htk]
              simp [List.getElem?_map, List.getElem?_eq_getElem h1]
            rw [List.getElem?_take_of_lt (by omega)] at this
            simpa using this
        obtain ⟨g, eg, hc⟩ := hx
        injection eg with eg
        subst eg
        have hk0 : (0 : Int) ≤ k := by omega
        have hk1 : (k : Int) < ks.length := by omega
        have TD := hid (show Calls Try.prog 51 #[.pointer (some ⟨p, 0, none⟩), .string ks[k]] wr fun x w' => ∃ u, x = .returned u ∧ Hid (∃ tk, tk.toL = dels (ks.take (k + 1)) t'.toL ∧ ZS w' p tk f c m ∧ Kept (fun j => j = p ∨ j ∈ t'.bs) W w') from by
          obtain ⟨tk, e1, hz, hkk⟩ := HT.out
          have hsub : ∀ e ∈ tk.toL, e ∈ t'.toL := fun e he => by
            rw [e1, dels_filter] at he
            exact (List.mem_filter.1 he).1
          have hn : tk.n ≤ 600000 := by
            have h3 : tk.toL.length ≤ t'.toL.length := by rw [e1, dels_filter]; exact List.length_filter_le _ _
            have := NN.out.2.2.2.2.2.2.2.2.2.2.2.2.2
            unfold Tr.n
            omega
          refine (tdel_any hz hn).mono ?_
          rintro x w' ⟨u, rfl, N⟩
          obtain ⟨t2, e2, hz2, hk2⟩ := N.out
          refine ⟨u, rfl, hid ⟨t2, ?_, hz2, hkk.trans hk2 (fun j _ e => e.elim .inl (fun e => .inr ?_))⟩⟩
          · rw [e2, e1, List.take_add_one, List.getElem?_eq_getElem h1]
            exact (dels_snoc _ _ _).symm
          · obtain ⟨x, hx, rfl⟩ := List.mem_map.1 e
            exact List.mem_map.2 ⟨x, hsub x hx, rfl⟩)
        clear HT
        go_wp2_with (
          go_at_call 51
          refine TD.out.mono ?_
          rintro e w2 ⟨u, rfl, N2⟩
          clear TD)
        go_roundw
        case rel => exact ⟨k + 1, by go_num, by omega, N2⟩
        case measure => simp [intOf]; omega
      · have hk1 : k = ks.length := by omega
        have h1' : ¬ (k : Int) < ks.length := by omega
        go_wp2
        obtain ⟨hk, hB, q1, q2, hde, hlt, hD, hK, Z2, l0, hw0, hr0e, hBB, htn⟩ := NN.out
        obtain ⟨tk, e1, hz, hkk⟩ := HT.out
        have hK2 : wr.heap[D]? = some (.deferred (some [])) := hp_kept hK hkk (fun e => by
          rcases e with e | e
          · have := hlt.1; omega
          · have := hlt.2.1 D e; omega)
        refine ⟨by simp, .inl ⟨_, _, rfl, run_takeDeferred hK2, ?_⟩⟩
        refine ⟨_, results_none rfl _ _ _, ?_⟩
        rw [← HP.out]
        rw [hk1, List.take_length, hde] at e1
        have k1 : Kept (fun j => j = p ∨ j ∈ t'.bs) w W := ((Kept.ofBelow hBB).mono (fun _ _ e => e.elim)).trans hk (fun j hj e => by omega)
        refine ⟨rfl, tk, e1, hz.puto hK2 rfl _, (k1.trans hkk (fun _ _ e => e)).trans (kept_put _ D _) (fun j hj e => by omega)⟩
  case stop =>
    rintro D W hD h hK
    exact h.elim

end Go.Proofs.Ythjggbcppgbdoaa

namespace Go.Proofs.Ythjggbcppgbdoaa
open Go.RowKit

set_option maxRecDepth 100000 in
set_option maxHeartbeats 800000 in
theorem sdone_any (p : Nat) (t : Tr) (f : Nat → Sd) (c : Int) (w : World) (h : ZS w p t f c true) (hn : t.n ≤ 600000) :
    Calls Try.prog 27 #[.pointer (some ⟨p, 0, none⟩)] w fun x w' => x = .returned (.int .i64 0) ∧ ∃ t', t'.toL = t.toL.filter (fun e => (see false (f (bk e.2.2))).2) ∧ ZS w' p t' f c false ∧ Kept (fun j => j = p ∨ j ∈ t.bs) w w' := by
  obtain ⟨y0, y1, y2, y3⟩ := cells4 h.tb.blk
  have yf : ∀ j, w.frozen? ⟨p, j, none⟩ = false := fun j => free_of_block h.tb.blk
  have SW := hid (sweep_any p t f c false _ (h.mark false) hn)
  clear h hn
  go_enter Try.func27, Try.ntmps27
  go_wp2_with (
    go_at_call 59
    refine SW.out.mono ?_
    rintro e w1 ⟨rfl, hb⟩
    have B1 := hid hb
    clear hb)
  go_ret
  obtain ⟨t', h1, h2, h3⟩ := B1.out
  exact ⟨rfl, t', h1, h2, ((Kept.refl (fun j => j = p ∨ j ∈ t.bs) w).setCell (p := ⟨p, 3, none⟩) (fun _ => .inl rfl) (.bool false)).trans h3 (fun _ _ e => e)⟩

theorem vdone (p : Nat) (V : List Pl) (F : Nat → Prop) (w : World) (h : ZV w p V true F) (hl : V.length ≤ 500000) :
    Calls Try.prog 27 #[.pointer (some ⟨p, 0, none⟩)] w fun x w' => x = .returned (.int .i64 0) ∧ ZV w' p (V.filter keepP) false F ∧ Kept F w w' := by
  obtain ⟨⟨t, f, hz, hv, hF⟩, hcalm, hzr⟩ := h
  have hn : t.n = V.length := ZV.len hv
  refine (sdone_any p t f _ w hz (by omega)).mono ?_
  rintro x w' ⟨rfl, t', ht, hz', hk'⟩
  have hsub : ∀ e ∈ t'.toL, e ∈ t.toL := fun e he => by rw [ht] at he; exact (List.mem_filter.1 he).1
  refine ⟨rfl, ⟨⟨t', f, ?_, ?_, ?_⟩, fun _ e he => (List.mem_filter.1 he).2, fun e he => hzr e (List.mem_filter.1 he).1⟩, hk'.mono (fun j _ e => hF j (e.elim .inl (fun e => .inr (.inl e))))⟩
  · have : (V.filter keepP).filter keepP = V.filter keepP := by simp [List.filter_filter]
    rw [this]
    exact hz'
  · rw [ht, ← hv]
    unfold vw
    rw [List.filter_map]
    rfl
  · rintro j (rfl | hj | ⟨e, he, rfl⟩)
    · exact hF _ (.inl rfl)
    · obtain ⟨e, he, rfl⟩ := List.mem_map.1 hj
      exact hF _ (.inr (.inl (List.mem_map.2 ⟨e, hsub e he, rfl⟩)))
    · exact hF _ (.inr (.inr ⟨e, hsub e he, rfl⟩))

end Go.Proofs.Ythjggbcppgbdoaa

namespace Go.Proofs.Ythjggbcppgbdoaa
open Go.RowKit

/-- The document's Above: the least key above a text of which something is held. -/
def abP (key : ByteArray) (e : Pl) : Bool := kl key e.1 && e.2.has (!e.2.w)
def rabV (key : ByteArray) (m : Bool) (l : List Pl) : ByteArray × Int × Bool := if m then (match l.find? (abP key) with | some e => (e.1, e.2.copy (!e.2.w), true) | none => (⟨#[]⟩, 0, false)) else (⟨#[]⟩, 0, false)

def RaP (key : ByteArray) (m : Bool) (l : List Pl) (w : World) : Ending → World → Prop := fun x w' => x = .returned (.tuple #[.string (rabV key m l).1, .int .i64 (rabV key m l).2.1, .bool (rabV key m l).2.2]) ∧ Below w.heap.size w w'

set_option maxRecDepth 100000 in
set_option maxHeartbeats 4000000 in
theorem rabove_no (v : Value) (l : List Pl) (key : ByteArray) (w : World) (h : Rl w v l) (hl : l.length ≤ 1000000) : Calls Try.prog 44 #[.agg #[v, .bool false], .string key] w (RaP key false l w) := by
  obtain ⟨ao, cap, e, -, -⟩ := h.shape
  subst e
  obtain ⟨W, hW⟩ : ∃ W, W = w.alloc (.cells #[.slice ao l.length cap, .bool false] 34) := ⟨_, rfl⟩
  have B0 := hid (show Below w.heap.size w W from hW ▸ below_new _ _)
  have hbox : W.heap[w.heap.size]? = some (.cells #[.slice ao l.length cap, .bool false] 34 (0, 0)) := by rw [hW]; exact hp_new _ _
  obtain ⟨y0, y1⟩ := cells2 hbox
  have FN := hid (show RaP key false l w (.returned noV) W from ⟨rfl, B0.out⟩)
  generalize hP : RaP key false l w = PP at FN ⊢
  have HW := hid hW
  clear h hbox hP hW
  go_enter Try.func44, Try.ntmps44
  go_wp2
  rw [← HW.out]
  go_loopw [7] (fun i wr => i = .int .i64 0 ∧ wr = W) (fun _ _ => 0)
  case atStart => exact ⟨rfl, rfl⟩
  case round =>
    obtain ⟨rfl, rfl⟩ := hrel
    by_cases h0 : 0 < l.length
    · have h0' : (0 : Int) < l.length := by omega
      go_wp2
      exact FN.out
    · have h0' : ¬ (0 : Int) < l.length := by omega
      go_wp2
      exact FN.out

set_option maxRecDepth 100000 in
set_option maxHeartbeats 4000000 in
theorem rabove_yes (v : Value) (l : List Pl) (key : ByteArray) (w : World) (h : Rl w v l) (hl : l.length ≤ 1000000) : Calls Try.prog 44 #[.agg #[v, .bool true], .string key] w (RaP key true l w) := by
  obtain ⟨ao, cap, e, -, -⟩ := h.shape
  subst e
  obtain ⟨W, hW⟩ : ∃ W, W = w.alloc (.cells #[.slice ao l.length cap, .bool true] 34) := ⟨_, rfl⟩
  have B0 := hid (show Below w.heap.size w W from hW ▸ below_new _ _)
  have hbox : W.heap[w.heap.size]? = some (.cells #[.slice ao l.length cap, .bool true] 34 (0, 0)) := by rw [hW]; exact hp_new _ _
  have HX := hid hbox
  have HW := hid hW
  have HR := hid h
  have FS := hid (show ∀ (k : Nat) (hk : k < l.length), (∀ j (hj : j < l.length), j < k → abP key l[j] = false) → abP key l[k] = true → ∀ w', Below w.heap.size w w' → RaP key true l w (.returned (.tuple #[.string l[k].1, .int .i64 (l[k].2.copy (!l[k].2.w)), .bool true])) w' from fun k hk h1 h2 w' hb => by
    refine ⟨?_, hb⟩
    unfold rabV
    rw [find_at (p := abP key) h1 hk h2]
    rfl)
  have FN := hid (show (∀ j (hj : j < l.length), abP key l[j] = false) → ∀ w', Below w.heap.size w w' → RaP key true l w (.returned noV) w' from fun h1 w' hb => by
    refine ⟨?_, hb⟩
    unfold rabV
    rw [find_no (p := abP key) h1]
    rfl)
  generalize hP : RaP key true l w = PP at FS FN ⊢
  clear h hbox hP hW
  go_enter Try.func44, Try.ntmps44
  go_wp2
  rw [← HW.out]
  go_loopw [7] (fun i wr => ∃ k : Nat, i = .int .i64 k ∧ k ≤ l.length ∧ Hid (∀ j (hj : j < l.length), j < k → abP key l[j] = false) ∧ Hid (Below W.heap.size W wr)) (fun i _ => l.length - (intOf i).toNat)
  case atStart => exact ⟨0, rfl, Nat.zero_le _, hid (fun j hj h => by omega), hid (Below.refl _ _)⟩
  case round =>
    obtain ⟨k, rfl, hk, hno, hb⟩ := hrel
    obtain ⟨y0, y1⟩ := cells2 (hp_below HX.out hb.out (hp_lt HX.out))
    by_cases h1 : k < l.length
    · obtain ⟨g, off, cap', e, -, -, -⟩ := HR.out.lits (by omega) (by omega)
      injection e with e1 _ e3
      subst e1 e3
      have h1k : (k : Int) < l.length := by omega
      obtain ⟨e0, he⟩ : ∃ e, l[k] = e := ⟨_, rfl⟩
      have CW := hid (show ∀ w1, Below w.heap.size w w1 → ∀ c u, c < 7 → (plC e0)[c]? = some u → w1.cell? ⟨g, off + (k * 7 + c), none⟩ = some u from fun w1 hb c u hc hu => by
        have := Rl.cells HR.out k h1 c u hc (by rw [he]; exact hu)
        exact (hb.cell (p := ⟨g, off + (k * 7 + c), none⟩) (World.block_lt_of_cell? _ _ this)).trans this)
      have C2 := hid (show ∀ w1, Below w.heap.size w w1 → w1.cell? ⟨g, off + k * 7, none⟩ = some (.string e0.1) ∧ w1.cell? ⟨g, off + k * 7 + 1, none⟩ = some (.int .i64 e0.2.c0) ∧ w1.cell? ⟨g, off + k * 7 + 2, none⟩ = some (.int .i64 e0.2.c1) ∧ w1.cell? ⟨g, off + k * 7 + 3, none⟩ = some (.bool e0.2.h0) ∧ w1.cell? ⟨g, off + k * 7 + 4, none⟩ = some (.bool e0.2.h1) ∧ w1.cell? ⟨g, off + k * 7 + 5, none⟩ = some (.int .i64 (bit e0.2.r)) ∧ w1.cell? ⟨g, off + k * 7 + 6, none⟩ = some (.int .i64 (bit e0.2.w)) from fun w1 hb => by
        simp only [Nat.add_assoc]
        exact ⟨CW.out w1 hb 0 _ (by omega) rfl, CW.out w1 hb 1 _ (by omega) rfl, CW.out w1 hb 2 _ (by omega) rfl, CW.out w1 hb 3 _ (by omega) rfl, CW.out w1 hb 4 _ (by omega) rfl, CW.out w1 hb 5 _ (by omega) rfl, CW.out w1 hb 6 _ (by omega) rfl⟩)
      obtain ⟨v0, v1, v2, v3, v4, v5, v6⟩ := C2.out wr (below_on B0.out hb.out)
      have HNX := hid (show abP key e0 = false → ∀ j (hj : j < l.length), j < k + 1 → abP key l[j] = false from fun hf j hj hjk => by
        by_cases hjk2 : j < k
        · exact hno.out j hj hjk2
        · have : j = k := by omega
          subst this
          rw [he]
          exact hf)
      have HYS := hid (show abP key e0 = true → ∀ w', Below w.heap.size w w' → PP (.returned (.tuple #[.string e0.1, .int .i64 (e0.2.copy (!e0.2.w)), .bool true])) w' from fun ht w' hb => by
        have := FS.out k h1 hno.out (by rw [he]; exact ht) w' hb
        rw [he] at this
        exact this)
      clear CW he FS FN
      obtain ⟨kk, c0, c1, h0, h1', r, wb⟩ := e0
      simp only at v0 v1 v2 v3 v4 v5 v6 HNX HYS C2
      generalize bit r = zr at v5 C2
      have X0 := fun zw => hp_new wr (.cells #[.int .i64 c0, .int .i64 c1, .bool h0, .bool h1', .int .i64 zr, .int .i64 zw] 56)
      cases wb
      · simp only [bit, Bool.false_eq_true, if_false] at v6 C2
        obtain ⟨x0, x1, x2, x3, x4, x5⟩ := cells6 (X0 0)
        have BX := hid (below_new wr (.cells #[.int .i64 c0, .int .i64 c1, .bool h0, .bool h1', .int .i64 zr, .int .i64 0] 56))
        have C3 := hid (show _ from C2.out (wr.alloc (.cells #[.int .i64 c0, .int .i64 c1, .bool h0, .bool h1', .int .i64 zr, .int .i64 0] 56)) (below_on (below_on B0.out hb.out) BX.out))
        obtain ⟨z0, -⟩ := C3.out
        obtain ⟨q0, q1⟩ := cells2 (hp_below (hp_below HX.out hb.out (hp_lt HX.out)) BX.out (Nat.lt_of_lt_of_le (hp_lt HX.out) hb.out.size))
        clear X0 C2 C3
        cases hg : kl key kk
        · have b1 : (!Op.bytesLess kk.toList key.toList && !(kk.toList == key.toList)) = false := by rw [gtr_eq]; exact hg
          have N2 := hid (HNX.out (by unfold abP; rw [hg]; rfl))
          clear hg HYS HNX
          go_wp2_with fail
          go_roundw
          case rel => exact ⟨k + 1, by go_num, by omega, N2, hid (below_on hb.out BX.out)⟩
          case measure => simp [intOf]; omega
        · have b1 : (!Op.bytesLess kk.toList key.toList && !(kk.toList == key.toList)) = true := by rw [gtr_eq]; exact hg
          cases h1'
          · have N2 := hid (HNX.out (by unfold abP; rw [hg]; rfl))
            clear hg HYS HNX
            go_wp2_with fail
            go_roundw
            case rel => exact ⟨k + 1, by go_num, by omega, N2, hid (below_on hb.out BX.out)⟩
            case measure => simp [intOf]; omega
          · have Y2 := hid (HYS.out (by unfold abP; rw [hg]; rfl))
            clear hg HYS HNX
            go_wp2_with fail
            go_quiet (fail)
            go_wp2
            exact Y2.out _ (blw_drewN (below_on (below_on B0.out hb.out) BX.out))
      · simp only [bit, if_true] at v6 C2
        obtain ⟨x0, x1, x2, x3, x4, x5⟩ := cells6 (X0 1)
        have BX := hid (below_new wr (.cells #[.int .i64 c0, .int .i64 c1, .bool h0, .bool h1', .int .i64 zr, .int .i64 1] 56))
        have C3 := hid (show _ from C2.out (wr.alloc (.cells #[.int .i64 c0, .int .i64 c1, .bool h0, .bool h1', .int .i64 zr, .int .i64 1] 56)) (below_on (below_on B0.out hb.out) BX.out))
        obtain ⟨z0, -⟩ := C3.out
        obtain ⟨q0, q1⟩ := cells2 (hp_below (hp_below HX.out hb.out (hp_lt HX.out)) BX.out (Nat.lt_of_lt_of_le (hp_lt HX.out) hb.out.size))
        clear X0 C2 C3
        cases hg : kl key kk
        · have b1 : (!Op.bytesLess kk.toList key.toList && !(kk.toList == key.toList)) = false := by rw [gtr_eq]; exact hg
          have N2 := hid (HNX.out (by unfold abP; rw [hg]; rfl))
          clear hg HYS HNX
          go_wp2_with fail
          go_roundw
          case rel => exact ⟨k + 1, by go_num, by omega, N2, hid (below_on hb.out BX.out)⟩
          case measure => simp [intOf]; omega
        · have b1 : (!Op.bytesLess kk.toList key.toList && !(kk.toList == key.toList)) = true := by rw [gtr_eq]; exact hg
          cases h0
          · have N2 := hid (HNX.out (by unfold abP; rw [hg]; rfl))
            clear hg HYS HNX
            go_wp2_with fail
            go_roundw
            case rel => exact ⟨k + 1, by go_num, by omega, N2, hid (below_on hb.out BX.out)⟩
            case measure => simp [intOf]; omega
          · have Y2 := hid (HYS.out (by unfold abP; rw [hg]; rfl))
            clear hg HYS HNX
            go_wp2_with fail
            go_quiet (fail)
            go_wp2
            exact Y2.out _ (blw_drewN (below_on (below_on B0.out hb.out) BX.out))
    · have N2 := hid (FN.out (fun j hj => hno.out j hj (by omega)))
      have h1' : ¬ (k : Int) < l.length := by omega
      go_wp2
      exact N2.out _ (below_on B0.out hb.out)

theorem rabove_any (v : Value) (m : Bool) (l : List Pl) (key : ByteArray) (w : World) (h : Rl w v l) (hl : l.length ≤ 1000000) : Calls Try.prog 44 #[.agg #[v, .bool m], .string key] w (RaP key m l w) := by
  cases m
  · exact rabove_no v l key w h hl
  · exact rabove_yes v l key w h hl

end Go.Proofs.Ythjggbcppgbdoaa
