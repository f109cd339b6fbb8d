import Derived.Test.YtdnlfacfleemeaaK05
import Derived.Test.YtdnlfacfleemeaaK07
import Derived.Test.YtdnlfacfleemeaaK04
namespace Go.Proofs.Ytdnlfacfleemeaa
open Go.RowKit

theorem takeZ_laid (f n : Int) (bs row rest : List Int) (v : Int) (hf : f ≠ 3) (hl : leadZ f (row ++ rest) n = (v, (row.length : Int), 0)) :
    takeZ f n (bs ++ (row ++ rest)) bs.length 0 = ((v, []), bs.length + row.length, 0) := by
  unfold takeZ
  rw [if_pos rfl, List.drop_left, hl]
  simp [hf]

theorem takeZ_text (n : Int) (bs t rest : List Int) (hn : (t.length : Int) ≤ n) (ht : (t.length : Int) < 9223372036854775808) :
    takeZ 3 n (bs ++ (rowF 10 t.length ++ (t ++ rest))) bs.length 0 = (((t.length : Int), t), bs.length + ((rowF 10 t.length).length + t.length), 0) := by
  unfold takeZ
  rw [if_pos rfl, List.drop_left, lead_num 3 (.inr rfl) _ _ _ (by omega) ht]
  rw [if_pos rfl, if_pos rfl, if_neg (by dsimp only; omega), if_neg (by simp; omega)]
  simp
  omega

theorem strBs_mkStr (l : List Int) (h : Oct l) : strBs (mkStr l) = l := by
  unfold mkStr strBs
  simp only [List.map_map]
  conv => rhs; rw [← List.map_id l]
  apply List.map_congr_left
  intro x hx
  have := h x hx
  simp only [Function.comp, id]
  rw [UInt8.toNat_ofNat']
  omega

theorem Oct.drop {l : List Int} (h : Oct l) (n : Nat) : Oct (l.drop n) := fun x hx => h x (List.mem_of_mem_drop hx)
theorem Oct.take {l : List Int} (h : Oct l) (n : Nat) : Oct (l.take n) := fun x hx => h x (List.mem_of_mem_take hx)

theorem three_t {t : Int × Int × Int} (h : t.2.2 = 0) : t = (t.1, t.2.1, 0) := by
  obtain ⟨a, b, c⟩ := t
  cases h; rfl

/-- A row that was read, laid again. -/
theorem row_again (f n : Int) (d : List Int) (hd : Oct d) (hf : f ≠ 0) (h : (leadZ f d n).2.2 = 0) :
    ∃ k : Nat, (leadZ f d n).2.1 = k ∧ 1 ≤ k ∧ k ≤ d.length ∧ 0 ≤ (leadZ f d n).1 ∧ rowF 10 (leadZ f d n).1 = d.take k := by
  unfold leadZ at h ⊢
  rw [if_neg hf] at h ⊢
  by_cases h2 : f = 2
  · rw [if_pos h2] at h ⊢
    obtain ⟨u, k, hr, hn, k1, k2, k3, u0, _, _, hrow⟩ := rowF_rowGo 10 1 (by omega) (by omega) d 0 0 (rowGo 10 1 d 0 0).1 (rowGo 10 1 d 0 0).2.1 hd (by omega) (three_t h)
    rw [hr, hn]
    refine ⟨k, by omega, k1, k2, by simpa using u0, ?_⟩
    rw [show (0 : Int) + u * 128 ^ 0 = u by simp]
    exact hrow 10 (by omega)
  · rw [if_neg h2] at h ⊢
    obtain ⟨u, k, hr, hn, k1, k2, k3, u0, _, _, hrow⟩ := rowF_rowGo 9 127 (by omega) (by omega) d 0 0 (rowGo 9 127 d 0 0).1 (rowGo 9 127 d 0 0).2.1 hd (by omega) (three_t h)
    rw [hr, hn]
    refine ⟨k, by omega, k1, k2, by simpa using u0, ?_⟩
    rw [show (0 : Int) + u * 128 ^ 0 = u by simp]
    exact hrow 10 (by omega)

theorem takeZ_row {f n : Int} {bs : List Int} {at' a2 : Nat} {v : Int} {t : List Int} (hb : Oct bs) (hf0 : f ≠ 0) (hf : f ≠ 3) (h : takeZ f n bs at' 0 = ((v, t), a2, 0)) :
    0 ≤ v ∧ t = [] ∧ at' ≤ a2 ∧ a2 ≤ max at' bs.length ∧ rowF 10 v = (bs.drop at').take (a2 - at') := by
  unfold takeZ at h
  rw [if_pos rfl] at h
  by_cases h0 : (leadZ f (bs.drop at') n).2.2 = 0
  · rw [if_pos h0, if_neg hf] at h
    obtain ⟨k, hk, k1, k2, hv, hrow⟩ := row_again f n _ (hb.drop at') hf0 h0
    injection h with ha hb'
    injection ha with ha1 ha2
    injection hb' with hc _
    rw [hk] at hc
    simp at hc k2
    subst hc ha1
    refine ⟨hv, ha2.symm, by omega, by omega, ?_⟩
    rw [hrow]
    congr 1
    omega
  · rw [if_neg h0] at h
    injection h with _ hb'
    injection hb' with _ hc
    exact absurd hc h0

theorem takeZ_txt {n : Int} {bs : List Int} {at' a2 : Nat} {v : Int} {t : List Int} (hb : Oct bs) (h : takeZ 3 n bs at' 0 = ((v, t), a2, 0)) :
    Oct t ∧ at' ≤ a2 ∧ a2 - at' ≤ (bs.drop at').length ∧ rowF 10 t.length ++ t = (bs.drop at').take (a2 - at') := by
  unfold takeZ at h
  rw [if_pos rfl] at h
  by_cases h0 : (leadZ 3 (bs.drop at') n).2.2 = 0
  · rw [if_pos h0, if_pos rfl] at h
    obtain ⟨k, hk, k1, k2, hv, hrow⟩ := row_again 3 n _ (hb.drop at') (by omega) h0
    rw [hk] at h
    generalize (leadZ 3 (bs.drop at') n).1 = V at h hv hrow
    by_cases h1 : max n 0 < V
    · rw [if_pos h1] at h; simp at h
    · rw [if_neg h1] at h
      by_cases h2 : ((bs.drop at').length : Int) - k < V
      · rw [if_pos h2] at h; simp at h
      · rw [if_neg h2] at h
        obtain ⟨m, rfl⟩ : ∃ m : Nat, V = m := ⟨V.toNat, by omega⟩
        injection h with ha hb'
        injection ha with ha1 ha2
        injection hb' with hc _
        generalize hd : bs.drop at' = d at *
        have hod : Oct d := hd ▸ hb.drop at'
        simp only [Int.toNat_natCast] at ha2
        have hc' : a2 = at' + (k + m) := by omega
        subst ha2 hc'
        have hlen : ((d.drop k).take m).length = m := by rw [List.length_take, List.length_drop]; omega
        refine ⟨(hod.drop k).take m, by omega, by omega, ?_⟩
        rw [hlen, hrow, show at' + (k + m) - at' = k + m by omega, List.take_add]
  · rw [if_neg h0] at h
    injection h with _ hb'
    injection hb' with _ hc
    exact absurd hc h0

theorem mkStr_size (l : List Int) : (mkStr l).size = l.length := by
  unfold mkStr ByteArray.size
  simp

theorem oct_str (s : ByteArray) : Oct (strBs s) := by
  intro x hx
  unfold strBs at hx
  obtain ⟨b, _, rfl⟩ := List.mem_map.1 hx
  have := b.toNat_lt
  omega


theorem oct_row (f : Nat) : ∀ (u : Int), 0 ≤ u → u < 128 ^ (f + 1) → Oct (rowF f u) := by
  induction f with
  | zero =>
    intro u h0 h1 x hx
    simp [rowF] at hx
    subst hx
    simp at h1
    omega
  | succ f ih =>
    intro u h0 h1 x hx
    unfold rowF at hx
    split at hx
    · rcases List.mem_cons.1 hx with rfl | hx
      · omega
      · have : u / 128 < 128 ^ (f + 1) := by
          rw [Int.pow_succ] at h1
          exact Int.ediv_lt_of_lt_mul (by omega) h1
        exact ih (u / 128) (by omega) this x hx
    · simp at hx
      subst hx
      omega

theorem encB_oct (k i : Int) (s : ByteArray) (h0 : -9223372036854775808 ≤ i) (h1 : i < 9223372036854775808) (hs : s.size ≤ 1000000) : Oct (encB k i s) := by
  have hf := foldZ_bd i h0 h1
  unfold encB
  split
  · intro x hx
    rcases List.mem_append.1 hx with h | h
    · simp at h; omega
    · exact oct_row 10 _ hf.1 (by simp; omega) x h
  · split
    · intro x hx
      rcases List.mem_append.1 hx with h | h
      · rcases List.mem_append.1 h with h | h
        · simp at h; omega
        · exact oct_row 10 _ (by omega) (by simp [strBs_len]; omega) x h
      · exact oct_str s x h
    · intro x hx
      simp at hx; omega

/-- There and back: P5.10. -/
theorem dec_enc (k i : Int) (s : ByteArray) (h0 : -9223372036854775808 ≤ i) (h1 : i < 9223372036854775808) (hc : chk k i s = 0) : decZ (encB k i s) = ((k, i, strBs s), 0) := by
  have hf := foldZ_bd i h0 h1
  have hbyte : ∀ (b : Int) (r : List Int), takeZ 0 1 (b :: r) 0 0 = ((b, []), 1, 0) := by
    intro b r
    rcases takeZ_byte (b :: r) with ⟨h, _⟩ | ⟨b', r', h, h2⟩
    · cases h
    · injection h with e1 e2
      subst e1 e2
      exact h2
  unfold chk at hc
  split at hc
  · rename_i hk
    subst hk
    split at hc
    · rename_i hs
      subst hs
      have e : encB 1 i emp = 1 :: (rowF 10 (foldZ i)) := by simp [encB]
      have t2 := takeZ_laid 2 0 [1] (rowF 10 (foldZ i)) [] (foldZ i) (by omega) (by simpa using lead_int (foldZ i) 0 [] hf.1 hf.2)
      have t2' : takeZ 2 0 (1 :: rowF 10 (foldZ i)) 1 0 = ((foldZ i, []), 1 + (rowF 10 (foldZ i)).length, 0) := by simpa using t2
      rw [e]
      have hs0 : strBs emp = [] := rfl
      simp [decZ, hbyte, t2', endZ, unfold_fold, hs0]
      omega
    · omega
  · split at hc
    · rename_i hk
      subst hk
      split at hc
      · rename_i hi
        subst hi
        split at hc
        · omega
        · rename_i hg
          have hsl := strBs_len s
          have e : encB 2 0 s = 2 :: (rowF 10 (strBs s).length ++ strBs s) := by simp [encB]
          have t2 := takeZ_text 256 [2] (strBs s) [] (by omega) (by omega)
          have t2' : takeZ 3 256 (2 :: (rowF 10 (strBs s).length ++ strBs s)) 1 0 = ((((strBs s).length : Int), strBs s), 1 + ((rowF 10 (strBs s).length).length + (strBs s).length), 0) := by simpa using t2
          rw [e]
          simp [decZ, hbyte, t2', endZ]
          omega
      · omega
    · split at hc
      · rename_i hk
        obtain ⟨rfl, rfl, rfl⟩ := hk
        rfl
      · omega

end Go.Proofs.Ytdnlfacfleemeaa

namespace Go.Proofs.Ytdnlfacfleemeaa
open Go.RowKit Go.Lib

/-- A field's bytes. -/
def fldV : Fk → Int → List Int
  | .a, v => [v]
  | .b, v => [v]
  | .c, v => [v]
  | _, v => rowF 10 v

theorem fldV_len (f : Fk) (v : Int) : (fldV f v).length ≤ 11 := by
  have := rowF_le 10 v
  cases f <;> simp [fldV] <;> omega

theorem Wr.other {B : Nat} {w : World} {p : Nat} {g : Option Nat} {bs : List Int} {e : Int} (h : Wr B w p g bs e) {b : Nat} {cs : Array Value} {t : TypeId} (hb : w.heap[b]? = some (.cells cs t (0, 0))) (h5 : t ≠ 5) (h67 : t ≠ 57) : ¬ (b = p ∨ g = some b) := by
  obtain ⟨v, h1, rfl, h3⟩ := h
  rintro (rfl | hg)
  · rw [h1] at hb
    simp at hb
    exact h67 hb.2.symm
  · rcases h3.2 with ⟨rfl, _⟩ | ⟨g, cap, cur, rfl, hB, hgg, _⟩
    · simp [Value.ownBlock] at hg
    · simp [Value.ownBlock] at hg
      subst hg
      rw [hb] at hgg
      simp at hgg
      exact h5 hgg.2

set_option maxRecDepth 100000 in
set_option maxHeartbeats 800000 in
theorem layByte_any (B p : Nat) (g : Option Nat) (bs : List Int) (w : World) (v : Int) (h : Wr B w p g bs 0) (hB : B ≤ w.heap.size) (hu0 : 0 ≤ v) (hu1 : v < 256) (hl : bs.length ≤ 1000000000) :
    Calls Try.prog 76 #[.pointer (some ⟨p, 0, none⟩), .int .i64 v] w fun x w' => x = .returned (.tuple #[]) ∧ WrStep B p g w w' (bs ++ [v]) 0 := by
  have hw := hid (wbyte_any B p g bs 0 w v h hB hu0 hu1 hl)
  rw [fix1 v hu0 hu1] at hw
  have hm : v % 256 = v := by omega
  clear h
  go_enter Try.func76, Try.ntmps76
  go_wp2_with fail
  refine hw.out.mono ?_
  rintro x w' ⟨rfl, hw1⟩
  have HW := hid hw1
  clear hw1
  go_wp2
  go_end0
  exact ⟨rfl, HW.out⟩

theorem layF_any (f : Fk) (B p : Nat) (g : Option Nat) (bs : List Int) (w : World) (v : Int) (h : Wr B w p g bs 0) (hB : B ≤ w.heap.size) (hu0 : 0 ≤ v) (hu1 : v < 256) (hl : bs.length ≤ 1000000000) :
    Calls Try.prog f.lay #[.pointer (some ⟨p, 0, none⟩), .int .i64 v] w fun x w' => x = .returned (.tuple #[]) ∧ WrStep B p g w w' (bs ++ fldV f v) 0 := by
  have hn := wnum_any B p g bs 0 w v h hB (by omega) hl
  rw [show wnumZ (bs, 0) v = (bs ++ rowF 10 v, 0) by unfold wnumZ; rw [if_pos rfl, if_neg (by omega)]] at hn
  have hb := layByte_any B p g bs w v h hB hu0 hu1 hl
  cases f
  · exact hb
  · exact hb
  · exact hb
  · exact hn
  · exact hn
  · exact hn
  · exact hn

/-- An instruction's bytes. -/
def valB (x : Ins) : List Int := rowF 10 ((encB x.k x.i x.t).length : Nat) ++ encB x.k x.i x.t
def insB (fs : List Fk) (vv : Bool) (x : Ins) : List Int := [x.op] ++ fs.flatMap (fun f => fldV f (f.get x)) ++ (if vv = true then valB x else [])

theorem flds_len (x : Ins) : ∀ fs : List Fk, (fs.flatMap (fun f => fldV f (f.get x))).length ≤ 11 * fs.length := by
  intro fs
  induction fs with
  | nil => simp
  | cons f fs ih => rw [List.flatMap_cons, List.length_append, List.length_cons]; have := fldV_len f (f.get x); omega

theorem flds_take (x : Ins) (fs : List Fk) (n : Nat) (f : Fk) (h : fs[n]? = some f) : (fs.take (n + 1)).flatMap (fun f => fldV f (f.get x)) = (fs.take n).flatMap (fun f => fldV f (f.get x)) ++ fldV f (f.get x) := by
  rw [List.take_add_one, h]
  simp [List.flatMap_append]

theorem encB_len (k i : Int) (s : ByteArray) (h : chk k i s = 0) (h0 : -9223372036854775808 ≤ i := by omega) (h1 : i < 9223372036854775808 := by omega) : (encB k i s).length ≤ 1000000 ∧ Oct (encB k i s) := by
  have hs : k = 2 → s.size ≤ 256 := by
    intro hk
    subst hk
    unfold chk at h
    revert h
    repeat' split
    all_goals first | omega | simp_all
  have hl : (encB k i s).length ≤ 1000000 ∧ (k = 2 ∨ k ≠ 2) := by
    refine ⟨?_, by omega⟩
    unfold encB
    split
    · have := rowF_le 10 (foldZ i); simp; omega
    · split
      · rename_i h2
        have := hs h2
        have h3 := rowF_le 10 ((strBs s).length : Nat)
        have h4 := strBs_len s
        simp only [List.length_append, List.length_singleton]
        omega
      · simp
  refine ⟨hl.1, ?_⟩
  by_cases h2 : k = 2
  · exact encB_oct k i s h0 h1 (by have := hs h2; omega)
  · have e : encB k i s = encB k i emp := by unfold encB; split <;> first | rfl | (rw [if_neg h2, if_neg h2])
    rw [e]
    exact encB_oct k i emp h0 h1 (by decide)

/-- Where an instruction, its fields and the Writer are. -/
structure Lin (B p r : Nat) (w W : World) (g : Option Nat) (S : Value) (vv : Bool) (fs : List Fk) (x : Ins) (bs : List Int) : Prop where
  st : WrStep B p g (w.alloc (.cells #[S, .bool vv] 97)) W bs 0

theorem lin_facts {B p r : Nat} {w W : World} {g : Option Nat} {S : Value} {vv : Bool} {x : Ins} {bs0 bs : List Int} (h0 : Wr B w p g bs0 0) (hr : w.heap[r]? = some (io x.op x.a x.b x.c x.n x.k x.i x.t))
    (h : WrStep B p g (w.alloc (.cells #[S, .bool vv] 97)) W bs 0) :
    W.heap[w.heap.size]? = some (.cells #[S, .bool vv] 97 (0, 0)) ∧ W.heap[r]? = some (io x.op x.a x.b x.c x.n x.k x.i x.t) ∧ ∃ g', Wr B W p g' bs 0 := by
  obtain ⟨g', hW, hg, hk⟩ := h
  have h0' : Wr B (w.alloc (.cells #[S, .bool vv] 97)) p g bs0 0 := h0.kept (Kept.ofBelow (below1 w _)) (fun h => h) (fun _ _ h => h)
  have b1 := heap_alloc_new w (.cells #[S, .bool vv] 97)
  have b2 : (w.alloc (.cells #[S, .bool vv] 97)).heap[r]? = some (io x.op x.a x.b x.c x.n x.k x.i x.t) := (Below.heap_alloc _ _ _ (lt_of hr)).trans hr
  exact ⟨(hk.block _ (lt_of b1) (h0'.other b1 (by decide) (by decide))).trans b1, (hk.block _ (lt_of b2) (h0'.other b2 (by decide) (by decide))).trans b2, g', hW⟩

theorem lin_block {B p : Nat} {w W : World} {g : Option Nat} {o : Obj} {bs0 bs : List Int} (h0 : Wr B w p g bs0 0) {b : Nat} {cs : Array Value} {t : TypeId} (hb : w.heap[b]? = some (.cells cs t (0, 0))) (h5 : t ≠ 5) (h67 : t ≠ 57)
    (h : WrStep B p g (w.alloc o) W bs 0) : W.heap[b]? = some (.cells cs t (0, 0)) := by
  obtain ⟨g', hW, hg, hk⟩ := h
  have h0' : Wr B (w.alloc o) p g bs0 0 := h0.kept (Kept.ofBelow (below1 w _)) (fun h => h) (fun _ _ h => h)
  have b2 : (w.alloc o).heap[b]? = some (.cells cs t (0, 0)) := (Below.heap_alloc _ _ _ (lt_of hb)).trans hb
  exact (hk.block _ (lt_of b2) (h0'.other b2 h5 h67)).trans b2

/-- A step behind an alloc. -/
theorem WrStep.alloc {B p : Nat} {g : Option Nat} {w W W2 : World} {o : Obj} {bs bs2 : List Int} (h : WrStep B p g w W bs 0) (h2 : ∀ g', Wr B (W.alloc o) p g' bs 0 → WrStep B p g' (W.alloc o) W2 bs2 0) : WrStep B p g w W2 bs2 0 := by
  refine WrStep.trans (w' := W.alloc o) ?_ h2
  obtain ⟨g', hW, hg, hk⟩ := h
  exact ⟨g', hW.kept (Kept.ofBelow (below1 W o)) (fun h => h) (fun _ _ h => h), hg, hk.alloc o⟩

theorem WrStep.drew' {B p : Nat} {g : Option Nat} {w W : World} {bs : List Int} (h : WrStep B p g w W bs 0) : WrStep B p g w W.drew bs 0 := by
  obtain ⟨g', hW, hg, hk⟩ := h
  exact ⟨g', hW.kept (S := fun _ => False) ⟨rfl, rfl, rfl, Nat.le_refl _, fun _ _ _ => rfl⟩ (fun h => h) (fun _ _ h => h), hg, hk.drew⟩

theorem wr_next {B p : Nat} {g g' : Option Nat} {w W W2 : World} {o : Obj} {bs2 : List Int} (hg : g' = g ∨ ∃ k, w.heap.size ≤ k ∧ g' = some k) (hk : Kept (fun k => k = p ∨ g = some k) w W)
    (hs : WrStep B p g' (W.alloc o).drew W2 bs2 0) : WrStep B p g w W2 bs2 0 := by
  obtain ⟨g2, h1, h2, h3⟩ := hs
  exact wr_trans hg (hk.alloc o).drew h1 h2 h3

theorem wr_next0 {B p : Nat} {g g' : Option Nat} {w W W2 : World} {bs2 : List Int} (hg : g' = g ∨ ∃ k, w.heap.size ≤ k ∧ g' = some k) (hk : Kept (fun k => k = p ∨ g = some k) w W)
    (hs : WrStep B p g' W W2 bs2 0) : WrStep B p g w W2 bs2 0 := by
  obtain ⟨g2, h1, h2, h3⟩ := hs
  exact wr_trans hg hk h1 h2 h3

theorem Wr.more {B : Nat} {w : World} {p : Nat} {g : Option Nat} {bs : List Int} {e : Int} (h : Wr B w p g bs e) (o : Obj) : Wr B (w.alloc o).drew p g bs e :=
  h.kept (S := fun _ => False) ((Kept.ofBelow (below1 w o)).drew) (fun h => h) (fun _ _ h => h)

theorem lin_next {B p : Nat} {wr w4 : World} {g' : Option Nat} {bs1 bs2 : List Int} {cs : Array Value} {t : TypeId} (hW : Wr B wr p g' bs1 0) (hs : WrStep B p g' (wr.alloc (.cells cs t)).drew w4 bs2 0) (h5 : t ≠ 5) (h67 : t ≠ 57) :
    w4.heap[wr.heap.size]? = some (.cells cs t (0, 0)) ∧ ∀ (b : Nat) (cs2 : Array Value) (t2 : TypeId), wr.heap[b]? = some (.cells cs2 t2 (0, 0)) → t2 ≠ 5 → t2 ≠ 57 → w4.heap[b]? = wr.heap[b]? := by
  obtain ⟨g2, h1, h2, hk⟩ := hs
  have h0 := hW.more (.cells cs t)
  have b1 : (wr.alloc (.cells cs t)).drew.heap[wr.heap.size]? = some (.cells cs t (0, 0)) := heap_alloc_new wr (.cells cs t)
  refine ⟨(hk.block _ (lt_of b1) (h0.other b1 h5 h67)).trans b1, ?_⟩
  intro b cs2 t2 hb h5' h67'
  have e1 : (wr.alloc (.cells cs t)).drew.heap[b]? = wr.heap[b]? := Below.heap_alloc _ _ _ (lt_of hb)
  have b2 := e1.trans hb
  exact (hk.block _ (lt_of b2) (h0.other b2 h5' h67')).trans e1

theorem wfacts4 {w : World} {r : Nat} {a b c d : Value} {t : TypeId} (h : w.heap[r]? = some (.cells #[a, b, c, d] t (0, 0))) :
    w.cell? ⟨r, 0, none⟩ = some a ∧ w.cell? ⟨r, 1, none⟩ = some b ∧ w.cell? ⟨r, 2, none⟩ = some c ∧ w.cell? ⟨r, 3, none⟩ = some d := by
  refine ⟨?_, ?_, ?_, ?_⟩ <;> (rw [cell_of_row w _ _ _ _ _ h]; rfl)

/-- The first alloc is struck out. -/
theorem WrStep.unalloc {B p : Nat} {g : Option Nat} {w W : World} {o : Obj} {bs0 bs : List Int} (_h0 : Wr B w p g bs0 0) (h : WrStep B p g (w.alloc o) W bs 0) : WrStep B p g w W bs 0 := by
  obtain ⟨g', h1, h2, h3⟩ := h
  refine ⟨g', h1, ?_, ?_⟩
  · rcases h2 with h2 | ⟨k, hk, e⟩
    · exact .inl h2
    · exact .inr ⟨k, by simp at hk; omega, e⟩
  · exact (Kept.trans ((Kept.ofBelow (below1 w o)).mono (S' := fun k => k = p ∨ g = some k) (fun _ _ h => h.elim)) h3 (fun _ _ h => h))

set_option maxRecDepth 100000 in
set_option maxHeartbeats 4000000 in
theorem lay_any (B p r : Nat) (g : Option Nat) (bs : List Int) (S : Value) (fs : List Fk) (vv : Bool) (x : Ins) (w : World) (hW : Wr B w p g bs 0) (hB : B ≤ w.heap.size) (hr : w.heap[r]? = some (io x.op x.a x.b x.c x.n x.k x.i x.t))
    (hS : FsAt w S fs) (hl : fs.length ≤ 100) (hop : 0 ≤ x.op ∧ x.op < 256) (hf : ∀ f ∈ fs, 0 ≤ f.get x ∧ f.get x < 256) (hv : vv = true → chk x.k x.i x.t = 0) (hi : -9223372036854775808 ≤ x.i ∧ x.i < 9223372036854775808) (hb : bs.length ≤ 900000000) :
    Calls Try.prog 43 #[.agg #[S, .bool vv], .pointer (some ⟨p, 0, none⟩), .pointer (some ⟨r, 0, none⟩)] w fun e w' => e = .returned (.tuple #[]) ∧ WrStep B p g w w' (bs ++ insB fs vv x) 0 := by
  obtain ⟨ao, rfl, hS2⟩ := hS
  have HS := hid hS2
  have HW := hid hW
  have HR := hid hr
  have HF := hid hf
  have HV := hid hv
  clear hS2 hf hv
  obtain ⟨c0, c1, c2, c3, c4, c5, c6, c7, -⟩ := vfacts8 hr
  have k1 := lt_of hr
  have hz1 := hop.1
  have hz2 := hop.2
  clear hW hr
  go_enter Try.func43, Try.ntmps43
  go_wp2_with (first
    | (go_at_call 28
       refine (wbyte_any B p g bs 0 _ x.op (HW.out.kept (Kept.ofBelow (below1 w _)) (fun h => h) (fun _ _ h => h)) (by simp; omega) hz1 hz2 (by omega)).mono ?_
       rintro e w1 ⟨rfl, hs1⟩
       rw [fix1 x.op hz1 hz2] at hs1
       have H1 := hid hs1
       have F1 := hid (lin_facts HW.out HR.out hs1)
       obtain ⟨d0, d1, -⟩ := wfacts2 F1.out.1
       clear hs1))
  go_loopw [20] (fun ix wr => ∃ (n : Nat), n ≤ fs.length ∧ ix = .int .i64 n ∧ Hid (WrStep B p g (w.alloc (.cells #[.slice ao fs.length fs.length, .bool vv] 97)) wr (bs ++ ([x.op] ++ (fs.take n).flatMap (fun f => fldV f (f.get x)))) 0)) (fun ix _ => fs.length - (intOf ix).toNat)
  case atStart => exact ⟨0, Nat.zero_le _, rfl, hid (by simpa using H1.out)⟩
  case round =>
    clear H1 F1 d0 d1
    obtain ⟨n, hn, rfl, hC⟩ := hrel
    have F1 := hid (lin_facts HW.out HR.out hC.out)
    obtain ⟨d0, d1, -⟩ := wfacts2 F1.out.1
    obtain ⟨c0, c1, c2, c3, c4, c5, c6, c7, -⟩ := vfacts8 F1.out.2.1
    have k1 := lt_of F1.out.2.1
    have k2 := lt_of F1.out.1
    obtain ⟨g', hW', hg', hk'⟩ := hC.out
    have HC2 := hid (And.intro hW' (And.intro hg' hk'))
    have hz3 : B ≤ wr.heap.size := by have := hk'.size; simp at this; omega
    clear hW' hg' hk'
    by_cases hlt : n < fs.length
    · obtain ⟨f, hf⟩ : ∃ f, fs[n]? = some f := ⟨_, List.getElem?_eq_getElem hlt⟩
      obtain ⟨b, rfl, hblk⟩ := HS.out (by intro e; rw [e] at hlt; simp at hlt)
      have hblk2 := lin_block HW.out hblk (by decide) (by decide) hC.out
      obtain ⟨T0, T1, T2, T3⟩ := fs_at hblk2 n f hf
      have hbl := lt_of hblk2
      have hlt' : (n : Int) < (fs.length : Int) := by omega
      have q0 := fk_cell F1.out.2.1 f
      have hcp := f.enter_part
      have hcl := f.enter_lay
      have hp := hid (part_any f)
      have hgt := HF.out f (List.mem_of_getElem? hf)
      have hlf := hid (fun B p g bs w h hB hl => layF_any f B p g bs w (f.get x) h hB hgt.1 hgt.2 hl)
      have HT := hid (flds_take x fs n f hf)
      have hlen := flds_len x (fs.take n)
      have hlen2 : (fs.take n).length ≤ 100 := by rw [List.length_take]; omega
      have hlen3 : (bs ++ ([x.op] ++ (fs.take n).flatMap (fun f => fldV f (f.get x)))).length ≤ 1000000000 := by
        rw [List.length_append, List.length_append, List.length_singleton]
        omega
      have HL3 := hid hlen3
      clear hlen hlen3
      obtain ⟨P, hP⟩ : ∃ P, P = f.part := ⟨_, rfl⟩
      obtain ⟨F, hF⟩ : ∃ F, F = f.fit := ⟨_, rfl⟩
      obtain ⟨q, hq⟩ : ∃ q, q = f.pos := ⟨_, rfl⟩
      obtain ⟨v, hv⟩ : ∃ v, v = f.get x := ⟨_, rfl⟩
      obtain ⟨L, hL⟩ : ∃ L, L = f.lay := ⟨_, rfl⟩
      obtain ⟨M, hM⟩ : ∃ M, M = f.tak := ⟨_, rfl⟩
      rw [← hP] at T0 hcp hp
      rw [← hF] at T1
      rw [← hL] at T2 hcl hlf
      rw [← hM] at T3
      rw [← hq] at q0 hp
      rw [← hv] at q0 hlf HT
      clear hf hblk hblk2 hP hF hq hv hL hM hgt
      go_wp2_with fail
      go_region_held (fun w' => w'.cell? ⟨wr.heap.size, 0, none⟩ = some (fn P) ∧ w'.cell? ⟨wr.heap.size, 2, none⟩ = some (fn L) ∧ w'.cell? ⟨r, q, none⟩ = some (.int .i64 v)) (go_keep) (first
        | (refine (hp.out _ _).mono ?_
           rintro e w3 ⟨rfl, e3⟩
           rw [e3]
           clear e3 w3)
        | (refine (hlf.out B p g' _ _ (HC2.out.1.more _) (by simp; omega) HL3.out).mono ?_
           rintro e w4 ⟨rfl, hs4⟩
           have H4 := hid (wr_next HC2.out.2.1 HC2.out.2.2 hs4)
           have N4 := lin_next HC2.out.1 hs4 (by decide) (by decide)
           obtain ⟨z0, z1, z2, z3⟩ := wfacts4 N4.1
           have z4 : w4.cell? ⟨r, q, none⟩ = some (.int .i64 v) := (World.cell?_of_block (a := ⟨r, q, none⟩) (N4.2 r _ _ F1.out.2.1 (by decide) (by decide))).trans q0
           clear hs4 N4))
      go_wp2
      go_roundw
      case rel =>
        refine ⟨n + 1, by omega, by go_num, hid ?_⟩
        rw [HT.out]
        have := H4.out
        simpa [List.append_assoc] using this
      case measure => simp [intOf]; omega
    · have hlt' : ¬ ((n : Int) < (fs.length : Int)) := by omega
      have htk : fs.take n = fs := List.take_of_length_le (by omega)
      rw [htk] at hC HC2
      have hlen := flds_len x fs
      cases vv with
      | false =>
        go_wp2
        go_end0
        refine ⟨rfl, ?_⟩
        have := WrStep.unalloc HW.out hC.out
        simpa [insB] using this
      | true =>
        have HE := hid (encode_any x.k x.i x.t hi.1 hi.2)
        have hlen3 : (bs ++ ([x.op] ++ fs.flatMap (fun f => fldV f (f.get x)))).length ≤ 1000000000 := by
          rw [List.length_append, List.length_append, List.length_singleton]
          omega
        have HL3 := hid hlen3
        have HZ := hid (HV.out rfl)
        have HQ := hid (encB_len x.k x.i x.t (HV.out rfl))
        clear hlen hlen3 hC
        go_wp2_with fail
        refine (HE.out _).mono ?_
        rintro e w5 (⟨h5, -⟩ | ⟨-, g5, rfl, ho5, hg5, hb5⟩)
        · exact absurd HZ.out h5
        have hs5 := sl_string (sl_of_owns (ho5.owns (B := 0) (Nat.zero_le _) (by have := HQ.out.1; unfold maxLen; omega)))
        have HB5 := hid hb5
        clear hb5 ho5
        go_wp2_with fail
        refine (wtext_any B p g' _ 0 _ (mkStr (encB x.k x.i x.t)) (HC2.out.1.kept (Kept.ofBelow HB5.out) (fun h => h) (fun _ _ h => h)) (Nat.le_trans hz3 HB5.out.size) (by rw [mkStr_size]; have := HQ.out.1; omega) HL3.out).mono ?_
        rintro e w6 ⟨rfl, hs6⟩
        rw [strBs_mkStr _ HQ.out.2] at hs6
        have H6 := hid (wr_next0 HC2.out.2.1 (HC2.out.2.2.trans (Kept.ofBelow HB5.out) (fun _ _ h => h.elim)) hs6)
        clear hs6
        go_wp2
        go_end0
        refine ⟨rfl, ?_⟩
        have := WrStep.unalloc HW.out H6.out
        simpa [insB, valB, wtextZ, List.append_assoc] using this

end Go.Proofs.Ytdnlfacfleemeaa
