import Derived.Test.YtamajeagmkjjbaaNil
import Derived.Test.YtamajeagmkjjbaaKnown
namespace Go.Proofs.Ytamajeagmkjjbaa
open Go.RowKit

theorem rdZero (w : World) : Rd (w.alloc (.cells #[.slice none 0 0, .int .i64 0, .int .i64 0] 57)) w.heap.size none [] 0 0 :=
  ⟨_, heap_alloc_new w _, rfl, ⟨none, 0, rfl, Nat.le_refl _, fun h => absurd rfl h⟩, by simp, ⟨(fun _ h => nomatch h), Nat.le_refl _, by simp⟩⟩

/-- Of no bytes nothing is taken. -/
theorem takeZ_none (f n e : Int) : ∃ e2, takeZ f n [] 0 e = ((0, []), 0, e2) := by
  unfold takeZ
  by_cases he : e = 0
  · rw [if_pos he]
    rw [List.drop_nil]
    unfold leadZ
    by_cases h0 : f = 0
    · rw [if_pos h0]
      unfold fixZ
      by_cases h1 : n < 0 ∨ 8 < n
      · rw [if_pos h1]; exact ⟨1, rfl⟩
      · rw [if_neg h1]
        by_cases h2 : ((([] : List Int).length : Nat) : Int) < n
        · rw [if_pos h2]; exact ⟨2, rfl⟩
        · rw [if_neg h2]
          have hn : n = 0 := by simp at h2; omega
          subst hn
          subst h0
          exact ⟨0, rfl⟩
    · rw [if_neg h0]
      by_cases h2 : f = 2
      · rw [if_pos h2]; exact ⟨2, rfl⟩
      · rw [if_neg h2]; exact ⟨2, rfl⟩
  · rw [if_neg he]; exact ⟨e, rfl⟩

theorem itZ_none (x : It) (e : Int) : ∃ e2, itZ x [] 0 e = ((0, 0, []), 0, e2) := by
  unfold itZ
  split
  · obtain ⟨e2, h⟩ := takeZ_none 0 1 e; rw [h]; exact ⟨e2, rfl⟩
  · split
    · obtain ⟨e2, h⟩ := takeZ_none 0 x.n e; rw [h]; exact ⟨e2, rfl⟩
    · split
      · obtain ⟨e2, h⟩ := takeZ_none 1 0 e; rw [h]; exact ⟨e2, rfl⟩
      · split
        · obtain ⟨e2, h⟩ := takeZ_none 2 0 e; rw [h]; exact ⟨e2, rfl⟩
        · split
          · obtain ⟨e2, h⟩ := takeZ_none 3 x.n e; rw [h]; exact ⟨e2, rfl⟩
          · exact ⟨e, rfl⟩

theorem slNil (w : World) : Sl w (.slice none 0 0) [] := ⟨none, 0, rfl, Nat.le_refl _, fun h => absurd rfl h⟩

theorem taken_none (x : It) (e st : Int) (hst : e ≠ 0 → st = 0) (hx : x.ok) (e2 : Int) (hz : itZ x [] 0 e = ((0, 0, []), 0, e2)) (wx : World) :
    Calls Try.prog 20 #[.agg #[.slice none 0 0, .int .i64 0, .int .i64 e, .int .i64 st], .agg #[.int .i64 x.kind, .int .i64 x.n, .int .u64 x.u, .int .i64 x.i, .string x.s]] wx fun y w' =>
      ∃ st2, y = .returned (.tuple #[.agg #[.int .u64 0, .int .i64 0, .string ⟨#[]⟩], .agg #[.slice none 0 0, .int .i64 0, .int .i64 e2, .int .i64 st2]]) ∧ (e2 ≠ 0 → st2 = 0) ∧ Below wx.heap.size wx w' := by
  have := taken_any (.slice none 0 0) [] 0 e st x wx (slNil wx) (fun _ h => nomatch h) (by simp) (Nat.le_refl _) hst hx
  rw [hz] at this
  exact this

theorem tk_none (p : Nat) (g : Option Nat) (e : Int) (w : World) (x : It) (h : Rd w p g [] 0 e) (hp : p < w.heap.size) (hx : x.ok) (e2 : Int) (hz : itZ x [] 0 e = ((0, 0, []), 0, e2)) :
    Calls Try.prog 19 #[.pointer (some ⟨p, 0, none⟩), .agg #[.int .i64 x.kind, .int .i64 x.n, .int .u64 x.u, .int .i64 x.i, .string x.s]] w fun y w' => y = .returned (.agg #[.int .u64 0, .int .i64 0, .string ⟨#[]⟩]) ∧ RdStep p g w w' [] 0 e2 := by
  have := tk_any p g [] 0 e w x h hp hx
  rw [hz] at this
  exact this

theorem past3 {w : World} {p : Nat} {a b c : Value} {t : TypeId} (h : w.heap[p]? = some (.cells #[a, b, c] t (0, 0))) : (w.cell? ⟨p, 0, none⟩ = some a ∧ w.cell? ⟨p, 1, none⟩ = some b ∧ w.cell? ⟨p, 2, none⟩ = some c) ∧ w.frozen? ⟨p, 0, none⟩ = false ∧ w.frozen? ⟨p, 1, none⟩ = false ∧ w.frozen? ⟨p, 2, none⟩ = false :=
  ⟨cell_of_three h, free_of_block h, free_of_block h, free_of_block h⟩

theorem past4 {w : World} {p : Nat} {a b c d : Value} {t : TypeId} (h : w.heap[p]? = some (.cells #[a, b, c, d] t (0, 0))) : (w.cell? ⟨p, 0, none⟩ = some a ∧ w.cell? ⟨p, 1, none⟩ = some b ∧ w.cell? ⟨p, 2, none⟩ = some c ∧ w.cell? ⟨p, 3, none⟩ = some d) ∧ w.frozen? ⟨p, 0, none⟩ = false ∧ w.frozen? ⟨p, 1, none⟩ = false ∧ w.frozen? ⟨p, 2, none⟩ = false ∧ w.frozen? ⟨p, 3, none⟩ = false :=
  ⟨cell_of_four h, free_of_block h, free_of_block h, free_of_block h, free_of_block h⟩

theorem behind34 (w : World) {w4 : World} {a b c : Value} {t : TypeId} {a' b' c' d' : Value} {t' : TypeId} (hb : Below (((w.alloc (.cells #[a, b, c] t)).alloc (.cells #[a', b', c', d'] t')).drew).heap.size (((w.alloc (.cells #[a, b, c] t)).alloc (.cells #[a', b', c', d'] t')).drew) w4) : ((w4.cell? ⟨w.heap.size, 0, none⟩ = some a ∧ w4.cell? ⟨w.heap.size, 1, none⟩ = some b ∧ w4.cell? ⟨w.heap.size, 2, none⟩ = some c) ∧ w4.frozen? ⟨w.heap.size, 0, none⟩ = false ∧ w4.frozen? ⟨w.heap.size, 1, none⟩ = false ∧ w4.frozen? ⟨w.heap.size, 2, none⟩ = false) ∧ ((w4.cell? ⟨w.heap.size + 1, 0, none⟩ = some a' ∧ w4.cell? ⟨w.heap.size + 1, 1, none⟩ = some b' ∧ w4.cell? ⟨w.heap.size + 1, 2, none⟩ = some c' ∧ w4.cell? ⟨w.heap.size + 1, 3, none⟩ = some d') ∧ w4.frozen? ⟨w.heap.size + 1, 0, none⟩ = false ∧ w4.frozen? ⟨w.heap.size + 1, 1, none⟩ = false ∧ w4.frozen? ⟨w.heap.size + 1, 2, none⟩ = false ∧ w4.frozen? ⟨w.heap.size + 1, 3, none⟩ = false) :=
  ⟨past3 ((hb.block w.heap.size (by simp; omega)).trans (new2r w _ _).2), past4 ((hb.block (w.heap.size + 1) (by simp)).trans (new2r w _ _).1)⟩

theorem behind43 (w : World) {w4 : World} {a b c : Value} {t : TypeId} {a' b' c' d' : Value} {t' : TypeId} (hb : Below (((w.alloc (.cells #[a', b', c', d'] t')).alloc (.cells #[a, b, c] t)).drew).heap.size (((w.alloc (.cells #[a', b', c', d'] t')).alloc (.cells #[a, b, c] t)).drew) w4) : ((w4.cell? ⟨w.heap.size, 0, none⟩ = some a' ∧ w4.cell? ⟨w.heap.size, 1, none⟩ = some b' ∧ w4.cell? ⟨w.heap.size, 2, none⟩ = some c' ∧ w4.cell? ⟨w.heap.size, 3, none⟩ = some d') ∧ w4.frozen? ⟨w.heap.size, 0, none⟩ = false ∧ w4.frozen? ⟨w.heap.size, 1, none⟩ = false ∧ w4.frozen? ⟨w.heap.size, 2, none⟩ = false ∧ w4.frozen? ⟨w.heap.size, 3, none⟩ = false) ∧ ((w4.cell? ⟨w.heap.size + 1, 0, none⟩ = some a ∧ w4.cell? ⟨w.heap.size + 1, 1, none⟩ = some b ∧ w4.cell? ⟨w.heap.size + 1, 2, none⟩ = some c) ∧ w4.frozen? ⟨w.heap.size + 1, 0, none⟩ = false ∧ w4.frozen? ⟨w.heap.size + 1, 1, none⟩ = false ∧ w4.frozen? ⟨w.heap.size + 1, 2, none⟩ = false) :=
  ⟨past4 ((hb.block w.heap.size (by simp; omega)).trans (new2r w _ _).2), past3 ((hb.block (w.heap.size + 1) (by simp)).trans (new2r w _ _).1)⟩

theorem behind3 (w : World) {w4 : World} {a b c : Value} {t : TypeId} (hb : Below ((w.alloc (.cells #[a, b, c] t)).drew).heap.size ((w.alloc (.cells #[a, b, c] t)).drew) w4) : ((w4.cell? ⟨w.heap.size, 0, none⟩ = some a ∧ w4.cell? ⟨w.heap.size, 1, none⟩ = some b ∧ w4.cell? ⟨w.heap.size, 2, none⟩ = some c) ∧ w4.frozen? ⟨w.heap.size, 0, none⟩ = false ∧ w4.frozen? ⟨w.heap.size, 1, none⟩ = false ∧ w4.frozen? ⟨w.heap.size, 2, none⟩ = false) :=
  past3 ((hb.block w.heap.size (by simp)).trans (heap_alloc_new w _))

theorem behind4 (w : World) {w4 : World} {a' b' c' d' : Value} {t' : TypeId} (hb : Below ((w.alloc (.cells #[a', b', c', d'] t')).drew).heap.size ((w.alloc (.cells #[a', b', c', d'] t')).drew) w4) : ((w4.cell? ⟨w.heap.size, 0, none⟩ = some a' ∧ w4.cell? ⟨w.heap.size, 1, none⟩ = some b' ∧ w4.cell? ⟨w.heap.size, 2, none⟩ = some c' ∧ w4.cell? ⟨w.heap.size, 3, none⟩ = some d') ∧ w4.frozen? ⟨w.heap.size, 0, none⟩ = false ∧ w4.frozen? ⟨w.heap.size, 1, none⟩ = false ∧ w4.frozen? ⟨w.heap.size, 2, none⟩ = false ∧ w4.frozen? ⟨w.heap.size, 3, none⟩ = false) :=
  past4 ((hb.block w.heap.size (by simp)).trans (heap_alloc_new w _))

/-- The new Reader lies at P. -/
def NB (W w3 : World) (P : Nat) (e2 st2 : Int) : Prop := Below w3.heap.size w3 W ∧ (W.cell? ⟨P, 0, none⟩ = some (.slice none 0 0) ∧ W.cell? ⟨P, 1, none⟩ = some (.int .i64 0) ∧ W.cell? ⟨P, 2, none⟩ = some (.int .i64 e2) ∧ W.cell? ⟨P, 3, none⟩ = some (.int .i64 st2))

theorem rdEmpty {w w' : World} {p : Nat} {e : Int} (h : Rd w p none [] 0 e) (hp : w'.heap[p]? = w.heap[p]?) : Rd w' p none [] 0 e := by
  obtain ⟨v, h1, h2, ⟨ao, c, h3, h4, _⟩, r⟩ := h
  exact ⟨v, hp.trans h1, h2, ⟨ao, c, h3, h4, fun h => absurd rfl h⟩, r⟩

/-- The walk's x, written over. -/
theorem storeX {w' W W2 : World} {q : Nat} {e st e2 st2 : Int} (hq : W.heap[q]? = some (.cells #[.slice none 0 0, .int .i64 0, .int .i64 e, .int .i64 st] 44 (0, 0))) (hr : Rd W w'.heap.size none [] 0 e) (hb : Below w'.heap.size w' W) (hlt : w'.heap.size < q)
    (h : W2 = (((W.setCell ⟨q, 0, none⟩ (.slice none 0 0)).setCell ⟨q, 1, none⟩ (.int .i64 0)).setCell ⟨q, 2, none⟩ (.int .i64 e2)).setCell ⟨q, 3, none⟩ (.int .i64 st2)) :
    W2.heap[q]? = some (.cells #[.slice none 0 0, .int .i64 0, .int .i64 e2, .int .i64 st2] 44 (0, 0)) ∧ Rd W2 w'.heap.size none [] 0 e ∧ Below w'.heap.size w' W2 := by
  have hB : Below q W W2 := by
    rw [h]
    refine Below.setCell (p := ⟨q, 3, none⟩) ?_ (Nat.le_refl q) _
    refine Below.setCell (p := ⟨q, 2, none⟩) ?_ (Nat.le_refl q) _
    refine Below.setCell (p := ⟨q, 1, none⟩) ?_ (Nat.le_refl q) _
    refine Below.setCell (p := ⟨q, 0, none⟩) ?_ (Nat.le_refl q) _
    exact Below.refl _ _
  refine ⟨?_, rdEmpty hr (hB.block _ hlt), hb.trans (hB.mono (Nat.le_of_lt hlt))⟩
  rw [h]
  simp [World.setCell, Array.getElem?_modify, hq]

theorem lt_of_block {w : World} {p : Nat} {o : Obj} (h : w.heap[p]? = some o) : p < w.heap.size := (Array.getElem?_eq_some_iff.1 h).1

theorem cutG {A : Type} {F : A → World → Prop} {a : A} {w : World} (I : World → Prop) (h : I w) (k : ∀ w', I w' → F a w') : F a w := k w h

set_option maxRecDepth 100000 in
set_option maxHeartbeats 4000000 in
theorem nothing_any (v : Value) (its : List It) (w : World) (h : Its w v its) :
    Calls Try.prog 7 #[v] w fun x w' => x = .returned (.bool true) ∧ Below w.heap.size w w' := by
  have HM := hid (much_any v its none 0 0 w h (by omega))
  obtain ⟨ao, cap, hv, hc, hcm, hok, hcells⟩ := h
  subst hv
  have Hcl := hid hcells
  have Hok := hid hok
  clear hcells hok
  go_enter Try.func7, Try.ntmps7
  go_wp2_with fail
  refine HM.out.mono ?_
  rintro x w' ⟨hw, r, rfl, hr⟩
  subst hw
  cases r with
  | true =>
    clear hr
    go_wp2_with fail
    refine (known_any _).mono ?_
    rintro x w1 ⟨rfl, hb⟩
    have HB := hid hb
    clear hb
    go_wp2
    go_ret
    exact ⟨rfl, HB.out⟩
  | false =>
    obtain ⟨hn, _, hsum⟩ := hr rfl
    clear hr HM
    go_wp2_with fail
    refine (rread_any none 0 0 _).mono ?_
    rintro x w2 ⟨rfl, hb2⟩
    have hz2 : w'.heap.size + 1 ≤ w2.heap.size := by
      have := hb2.size
      simp at this
      exact this
    have HR := hid (rd_below (rdZero w') hb2)
    have HB2 := hid (((Below.refl _ w').alloc (Nat.le_refl _) _).trans (hb2.mono (by simp)))
    clear hb2
    go_wp2
    obtain ⟨W, hW⟩ : ∃ W, W = w2.alloc (.cells #[.slice none 0 0, .int .i64 0, .int .i64 0, .int .i64 0] 44) := ⟨_, rfl⟩
    rw [← hW]
    have hq0 : W.heap[w2.heap.size]? = some (.cells #[.slice none 0 0, .int .i64 0, .int .i64 0, .int .i64 0] 44 (0, 0)) := by rw [hW]; exact heap_alloc_new w2 _
    have hR0 : Rd W w'.heap.size none [] 0 0 := by rw [hW]; exact rd_below HR.out ((Below.refl _ _).alloc (Nat.le_refl _) _)
    have hB0 : Below w'.heap.size w' W := by rw [hW]; exact HB2.out.alloc (by omega) _
    have H0 := hid (⟨hq0, hR0, hB0⟩ : _ ∧ _ ∧ _)
    clear hq0 hR0 hB0 HR HB2 hW
    go_loopw [7] (fun i wr => ∃ (k : Nat) (e st : Int), k ≤ its.length ∧ i = .int .i64 k ∧ wr.heap[w2.heap.size]? = some (.cells #[.slice none 0 0, .int .i64 0, .int .i64 e, .int .i64 st] 44 (0, 0)) ∧ Rd wr w'.heap.size none [] 0 e ∧ Hid (e ≠ 0 → st = 0) ∧ Below w'.heap.size w' wr)
      (fun i _ => its.length - (intOf i).toNat)
    case atStart => exact ⟨0, 0, 0, Nat.zero_le _, rfl, H0.out.1, H0.out.2.1, hid (fun _ => rfl), H0.out.2.2⟩
    case round =>
      obtain ⟨k, e, st, hk, rfl, hxb, hrd, hst, hbel⟩ := hrel
      by_cases hlt : k < its.length
      · obtain ⟨b, off, rfl, hj⟩ := Hcl.out (by intro e; subst e; simp at hlt)
        have hcx := hj k its[k] (by simp [hlt])
        have hxok := Hok.out its[k] (List.getElem_mem hlt)
        obtain ⟨x, hxe⟩ : ∃ x, x = its[k] := ⟨_, rfl⟩
        rw [← hxe] at hcx hxok
        have HX := hid hxok
        obtain ⟨e2, hz⟩ := itZ_none x e
        have HZ := hid hz
        clear hz
        have hIt : ∀ wx : World, Below w'.heap.size w' wx → It.at wx b (off + k * 5) x := fun wx hb => by
          obtain ⟨c0, c1, c2, c3, c4⟩ := hcx
          exact ⟨(hb.cell (World.block_lt_of_cell? _ _ c0)).trans c0, (hb.cell (World.block_lt_of_cell? _ _ c1)).trans c1, (hb.cell (World.block_lt_of_cell? _ _ c2)).trans c2, (hb.cell (World.block_lt_of_cell? _ _ c3)).trans c3, (hb.cell (World.block_lt_of_cell? _ _ c4)).trans c4⟩
        have HIt := hid hIt
        have hbl : b < w'.heap.size := World.block_lt_of_cell? _ _ hcx.1
        obtain ⟨c0, c1, c2, c3, c4⟩ := hIt wr hbel
        have HL := hid (⟨hxb, hrd, hbel⟩ : _ ∧ _ ∧ _)
        have hqr : w2.heap.size < wr.heap.size := (Array.getElem?_eq_some_iff.1 hxb).1
        clear hIt hcx hj hxok hxe hxb hrd hbel
        go_wp2_with fail
        refine (lay_nil x _ HX.out).mono ?_
        rintro y w3 ⟨rfl, hb3⟩
        have hz3 := hb3.size
        have HL3 := hid (⟨(hb3.block _ hqr).trans HL.out.1, rd_below HL.out.2.1 hb3, HL.out.2.2.trans (hb3.mono HL.out.2.2.size)⟩ : _ ∧ _ ∧ _)
        clear hb3 HL c0 c1 c2 c3 c4
        obtain ⟨c0, c1, c2, c3, c4⟩ := HIt.out w3 HL3.out.2.2
        obtain ⟨x0, x1, x2, x3⟩ := cell_of_four HL3.out.1
        have hq3 : w2.heap.size < w3.heap.size := by omega
        have hb3' : b < w3.heap.size := World.block_lt_of_cell? _ _ c0
        have ne1 : w2.heap.size ≠ w3.heap.size := by omega
        have ne2 : b ≠ w3.heap.size := by omega
        have ne3 : w2.heap.size ≠ w3.heap.size + 1 := by omega
        have ne4 : b ≠ w3.heap.size + 1 := by omega
        go_wp2_with fail
        have hKeep : ∀ wx : World, Below w3.heap.size w3 wx → (wx.cell? ⟨w2.heap.size, 0, none⟩ = some (.slice none 0 0) ∧ wx.cell? ⟨w2.heap.size, 1, none⟩ = some (.int .i64 0) ∧ wx.cell? ⟨w2.heap.size, 2, none⟩ = some (.int .i64 e) ∧ wx.cell? ⟨w2.heap.size, 3, none⟩ = some (.int .i64 st)) ∧ (wx.cell? ⟨b, off + k * 5, none⟩ = some (.int .i64 x.kind) ∧ wx.cell? ⟨b, off + k * 5 + 1, none⟩ = some (.int .i64 x.n) ∧ wx.cell? ⟨b, off + k * 5 + 2, none⟩ = some (.int .u64 x.u) ∧ wx.cell? ⟨b, off + k * 5 + 3, none⟩ = some (.int .i64 x.i) ∧ wx.cell? ⟨b, off + k * 5 + 4, none⟩ = some (.string x.s)) ∧ Below w3.heap.size w3 wx := fun wx hb =>
          ⟨⟨(hb.cell hq3).trans x0, (hb.cell hq3).trans x1, (hb.cell hq3).trans x2, (hb.cell hq3).trans x3⟩, ⟨(hb.cell hb3').trans c0, (hb.cell hb3').trans c1, (hb.cell hb3').trans c2, (hb.cell hb3').trans c3, (hb.cell hb3').trans c4⟩, hb⟩
        have HK := hid hKeep
        clear hKeep
        have hself : Below w3.heap.size w3 w3 := Below.refl _ _
        go_region_held3 (fun wx => (wx.cell? ⟨w2.heap.size, 0, none⟩ = some (.slice none 0 0) ∧ wx.cell? ⟨w2.heap.size, 1, none⟩ = some (.int .i64 0) ∧ wx.cell? ⟨w2.heap.size, 2, none⟩ = some (.int .i64 e) ∧ wx.cell? ⟨w2.heap.size, 3, none⟩ = some (.int .i64 st)) ∧ (wx.cell? ⟨b, off + k * 5, none⟩ = some (.int .i64 x.kind) ∧ wx.cell? ⟨b, off + k * 5 + 1, none⟩ = some (.int .i64 x.n) ∧ wx.cell? ⟨b, off + k * 5 + 2, none⟩ = some (.int .u64 x.u) ∧ wx.cell? ⟨b, off + k * 5 + 3, none⟩ = some (.int .i64 x.i) ∧ wx.cell? ⟨b, off + k * 5 + 4, none⟩ = some (.string x.s)) ∧ Below w3.heap.size w3 wx)
          ((refine HK.out _ ?_; repeat (first | with_reducible assumption | with_reducible exact Below.refl _ _ | with_reducible refine Below.drew ?_ | with_reducible refine Below.alloc ?_ (by (try simp) <;> omega) _ | with_reducible refine Below.setCell ?_ (by (try simp) <;> omega) _)))
          (first | (go_at_call 20; refine (taken_none x e st hst.out HX.out e2 HZ.out _).mono ?_; rintro y w4 ⟨st2, rfl, hst2, hb4⟩; have hz4 := hb4.size; (first | (have u := behind34 w3 hb4; obtain ⟨⟨⟨a0, a1, a2⟩, f0, f1, f2⟩, ⟨d0, d1, d2, d3⟩, g0, g1, g2, g3⟩ := u) | (have u := behind43 w3 hb4; obtain ⟨⟨⟨a0, a1, a2, a3⟩, f0, f1, f2, f3⟩, ⟨d0, d1, d2⟩, g0, g1, g2⟩ := u) | (have u := behind3 w3 hb4; obtain ⟨⟨a0, a1, a2⟩, f0, f1, f2⟩ := u) | (have u := behind4 w3 hb4; obtain ⟨⟨a0, a1, a2, a3⟩, f0, f1, f2, f3⟩ := u) | skip); have hz5 : w3.heap.size ≤ w4.heap.size := (by simp at hz4; omega); have ne5 : w2.heap.size ≠ w4.heap.size := (by omega); have ne6 : b ≠ w4.heap.size := (by omega); (first | (have n1 := World.block_lt_of_cell? _ _ a0; have n2 := World.new_ne _ _ a0; dsimp only at n1 n2; (first | (have n3 := World.block_lt_of_cell? _ _ d0; have n4 := World.new_ne _ _ d0; dsimp only at n3 n4) | skip)) | skip); have hself4 : Below w3.heap.size w3 w4 := Below.trans (by repeat (first | with_reducible exact Below.refl _ _ | with_reducible refine Below.drew ?_ | with_reducible refine Below.alloc ?_ (by (try simp) <;> omega) _)) (hb4.mono (by (try simp) <;> omega)); have HS4 := hid hst2; have q4 := (hself4.block _ hq3).trans HL3.out.1; have z0 := free_of_block (o := 0) q4; have z1 := free_of_block (o := 1) q4; have z2 := free_of_block (o := 2) q4; have z3 := free_of_block (o := 3) q4; clear q4; clear hb4 hst2))
        refine cutG (fun W => NB W w3 (w4.heap.size + 1) e2 st2) ⟨by (repeat (first | with_reducible assumption | with_reducible exact Below.refl _ _ | with_reducible refine Below.drew ?_ | with_reducible refine Below.alloc ?_ (by (try simp) <;> omega) _ | with_reducible refine Below.setCell ?_ (by (try simp) <;> omega) _)), by go_simp⟩ ?_
        rotate_left
        refine cutG (fun W => NB W w3 (w4.heap.size) e2 st2) ⟨by (repeat (first | with_reducible assumption | with_reducible exact Below.refl _ _ | with_reducible refine Below.drew ?_ | with_reducible refine Below.alloc ?_ (by (try simp) <;> omega) _ | with_reducible refine Below.setCell ?_ (by (try simp) <;> omega) _)), by go_simp⟩ ?_
        rotate_left
        refine cutG (fun W => NB W w3 (w4.heap.size) e2 st2) ⟨by (repeat (first | with_reducible assumption | with_reducible exact Below.refl _ _ | with_reducible refine Below.drew ?_ | with_reducible refine Below.alloc ?_ (by (try simp) <;> omega) _ | with_reducible refine Below.setCell ?_ (by (try simp) <;> omega) _)), by go_simp⟩ ?_
        rotate_left
        refine cutG (fun W => NB W w3 (w3.heap.size + 1) e2 st2) ⟨by (repeat (first | with_reducible assumption | with_reducible exact Below.refl _ _ | with_reducible refine Below.drew ?_ | with_reducible refine Below.alloc ?_ (by (try simp) <;> omega) _ | with_reducible refine Below.setCell ?_ (by (try simp) <;> omega) _)), by go_simp⟩ ?_
        rotate_left
        refine cutG (fun W => NB W w3 (w3.heap.size) e2 st2) ⟨by (repeat (first | with_reducible assumption | with_reducible exact Below.refl _ _ | with_reducible refine Below.drew ?_ | with_reducible refine Below.alloc ?_ (by (try simp) <;> omega) _ | with_reducible refine Below.setCell ?_ (by (try simp) <;> omega) _)), by go_simp⟩ ?_
        rotate_left
        refine cutG (fun W => NB W w3 (w3.heap.size) e2 st2) ⟨by (repeat (first | with_reducible assumption | with_reducible exact Below.refl _ _ | with_reducible refine Below.drew ?_ | with_reducible refine Below.alloc ?_ (by (try simp) <;> omega) _ | with_reducible refine Below.setCell ?_ (by (try simp) <;> omega) _)), by go_simp⟩ ?_
        rotate_left
        all_goals
          rintro W ⟨hBW, hP0, hP1, hP2, hP3⟩
          have hqW := (hBW.block _ hq3).trans HL3.out.1
          have hRW := rd_below HL3.out.2.1 hBW
          have hbW := HL3.out.2.2.trans (hBW.mono HL3.out.2.2.size)
          have HWS := hid hBW.size
          clear hBW
          obtain ⟨W2, hW2⟩ : ∃ W2, W2 = (((W.setCell ⟨w2.heap.size, 0, none⟩ (.slice none 0 0)).setCell ⟨w2.heap.size, 1, none⟩ (.int .i64 0)).setCell ⟨w2.heap.size, 2, none⟩ (.int .i64 e2)).setCell ⟨w2.heap.size, 3, none⟩ (.int .i64 st2) := ⟨_, rfl⟩
          have HN := hid (storeX hqW hRW hbW (by omega) hW2)
          have HS5 := hid HS4.out
          have HW2 := hid hW2
          obtain ⟨y0, y1, y2, y3⟩ := cell_of_four hqW
          have v0 := free_of_block (o := 0) hqW
          have v1 := free_of_block (o := 1) hqW
          have v2 := free_of_block (o := 2) hqW
          have v3 := free_of_block (o := 3) hqW
          clear c0 c1 c2 c3 c4 x0 x1 x2 x3
          obtain ⟨c0, c1, c2, c3, c4⟩ := HIt.out W hbW
          have neb : b ≠ w2.heap.size := by omega
          have neb' : w2.heap.size ≠ b := by omega
          clear hqW hRW hbW hW2 HK hself hself4 HS4
          generalize w4.heap.size = P4 at *
          go_wp2_with fail
          rw [← HW2.out]
          refine (tk_nil x _ HX.out).mono ?_
          rintro y w5 ⟨rfl, hb5⟩
          have HN5 := hid (⟨(hb5.block _ (lt_of_block HN.out.1)).trans HN.out.1, rd_below HN.out.2.1 hb5, HN.out.2.2.trans (hb5.mono HN.out.2.2.size)⟩ : _ ∧ _ ∧ _)
          clear c0 c1 c2 c3 c4 y0 y1 y2 y3 v0 v1 v2 v3 hP0 hP1 hP2 hP3 HN HW2 hb5
          obtain ⟨c0, c1, c2, c3, c4⟩ := HIt.out w5 HN5.out.2.2
          obtain ⟨x0, x1, x2, x3⟩ := cell_of_four HN5.out.1
          rw [show gotV (0, 0, []) = .agg #[.int .u64 0, .int .i64 0, .string ⟨#[]⟩] from rfl]
          go_wp2_with fail
          refine (tk_none w'.heap.size none e _ x HN5.out.2.1 (by have := lt_of_block HN5.out.1; omega) HX.out e2 HZ.out).mono ?_
          rintro y w6 ⟨rfl, hr6, hk6⟩
          have HN6 := hid (⟨(hk6.block _ (lt_of_block HN5.out.1) (by omega)).trans HN5.out.1, hr6, HN5.out.2.2.trans (hk6.below HN5.out.2.2.size (by intro k hk; omega))⟩ : _ ∧ _ ∧ _)
          clear c0 c1 c2 c3 c4 x0 x1 x2 x3 HN5 hr6 hk6
          obtain ⟨x0, x1, x2, x3⟩ := cell_of_four HN6.out.1
          go_wp2_with fail
          refine (tells_any w'.heap.size none [] 0 e2 st2 none 0 _ HN6.out.2.1 HS5.out).mono ?_
          rintro y w7 ⟨rfl, hb7⟩
          have HN7 := hid (⟨(hb7.block _ (lt_of_block HN6.out.1)).trans HN6.out.1, rd_below HN6.out.2.1 hb7, HN6.out.2.2.trans (hb7.mono HN6.out.2.2.size)⟩ : _ ∧ _ ∧ _)
          clear x0 x1 x2 x3 HN6 hb7
          go_wp2
          go_roundw
          case rel => first | exact ⟨k + 1, e2, st2, by omega, by go_num, HN7.out.1, HN7.out.2.1, HS5, HN7.out.2.2⟩ | ((repeat apply Exists.intro); exact ⟨⟨k + 1, e2, st2, by omega, by go_num, HN7.out.1, HN7.out.2.1, HS5, HN7.out.2.2⟩, rfl⟩)
          case measure => simp [intOf]; omega
      · obtain rfl : k = its.length := by omega
        have HB := hid hbel
        clear hbel hxb hrd
        go_wp2_with (first | (go_at_call 25; refine (rerr_nil _).mono ?_; rintro e w' ⟨rfl, hww⟩; subst hww) | (go_at_call 14; refine (wdata_nil _).mono ?_; rintro e w' ⟨rfl, hww⟩; subst hww) | (go_at_call 15; refine (werr_nil _).mono ?_; rintro e w' ⟨rfl, hww⟩; subst hww) | (go_at_call 26; refine (left_nil _).mono ?_; rintro e w' ⟨rfl, hww⟩; subst hww) | (go_at_call 21; refine (end_nil _).mono ?_; rintro e w' ⟨rfl, hww⟩; subst hww))
        refine (known_any _).mono ?_
        rintro x w9 ⟨rfl, hb9⟩
        have HB9 := hid (HB.out.trans (hb9.mono HB.out.size))
        clear hb9 HB
        go_wp2
        go_ret
        exact ⟨rfl, HB9.out⟩

end Go.Proofs.Ytamajeagmkjjbaa
