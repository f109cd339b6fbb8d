import Derived.Test.YtdnlfacfleemeaaK04
import Derived.Test.YtdnlfacfleemeaaK02
import Derived.Test.YtdnlfacfleemeaaK01
import Derived.Laws.BytesArg
import Derived.ScopeJumps
import Derived.WalkMore
namespace Go.Proofs.Ytdnlfacfleemeaa
open Go.RowKit

theorem unfold_fold (v : Int) : unfoldZ (foldZ v) = v := by
  unfold unfoldZ foldZ
  split <;> split <;> omega

theorem fold_unfold (u : Int) (h : 0 ≤ u) : foldZ (unfoldZ u) = u := by
  unfold unfoldZ foldZ
  split <;> split <;> omega

/-- The bytes of a number, read again: the number in its n lowest bytes. -/
theorem leZ_fixedB (n : Nat) (v : Int) (_h : 0 ≤ v) : leZ (fixedB n v) = v % 256 ^ n := by
  induction n with
  | zero => simp [fixedB, leZ]
  | succ n ih =>
    rw [fixedB_succ, leZ_snoc, ih, fixedB_len, Int.pow_succ]
    have hp : (0 : Int) < 256 ^ n := Int.pow_pos (by omega)
    rw [Int.emod_def v (256 ^ n * 256), ← Int.ediv_ediv_of_nonneg (by omega), Int.emod_def v (256 ^ n), Int.emod_def (v / 256 ^ n) 256]
    generalize v / 256 ^ n = q
    generalize q / 256 = r
    generalize (256 : Int) ^ n = p
    rw [Int.sub_mul, Int.mul_assoc p 256 r, Int.mul_comm (256 * r) p, Int.mul_comm q p]
    omega

/-- A row, read again, whatever follows it. -/
theorem rowGo_rowF (last : Nat) (top : Int) (rest : List Int) (f : Nat) : ∀ (u : Int) (i : Nat) (acc : Int), 0 ≤ u → u < 128 ^ (f + 1) → (i = 0 ∨ 0 < u) → i + f + 1 ≤ last →
    (i + f + 1 = last → u < (top + 1) * 128 ^ f) → 0 ≤ top → top ≤ 127 →
    rowGo last top (rowF f u ++ rest) i acc = (acc + u * 128 ^ i, (i : Int) + (rowF f u).length, 0) := by
  induction f with
  | zero =>
    intro u i acc h0 h1 hi hl ht t0 t1
    simp at h1 ht
    rw [rowF, List.singleton_append, rowGo, if_neg (by omega), if_neg (by omega), if_neg (by omega)]
    rw [Int.emod_eq_of_lt h0 (by omega)]
    simp
  | succ f ih =>
    intro u i acc h0 h1 hi hl ht t0 t1
    by_cases hu : 127 < u
    · rw [rowF_more f u hu, List.append_assoc, List.singleton_append, rowGo, if_neg (by omega), if_pos (by omega)]
      rw [ih (u / 128) (i + 1) _ (by omega) (pow_step f u h1) (by omega) (by omega) ?_ t0 t1]
      · rw [show (u % 128 + 128) % 128 = u % 128 by omega, Int.pow_succ]
        have e : u = u % 128 + 128 * (u / 128) := by omega
        have e2 : u * 128 ^ i = u % 128 * 128 ^ i + u / 128 * (128 ^ i * 128) := by
          conv => lhs; rw [e]
          rw [Int.add_mul, Int.mul_comm 128 (u / 128), Int.mul_assoc, Int.mul_comm 128 (128 ^ i)]
        rw [e2]
        simp
        omega
      · intro hh
        have := ht (by omega)
        rw [Int.pow_succ, ← Int.mul_assoc] at this
        exact Int.ediv_lt_of_lt_mul (by omega) this
    · rw [rowF_last _ u hu, List.singleton_append, rowGo, if_neg (by omega), if_neg (by omega), if_neg (by omega)]
      rw [Int.emod_eq_of_lt h0 (by omega)]
      simp

end Go.Proofs.Ytdnlfacfleemeaa

namespace Go.Proofs.Ytdnlfacfleemeaa
open Go.RowKit

/-- What was read as a row is the row of what was read. -/
theorem rowF_rowGo (last : Nat) (top : Int) (t0 : 0 ≤ top) (t1 : top ≤ 127) (bs : List Int) : ∀ (i : Nat) (acc r n : Int), Oct bs → i < last → rowGo last top bs i acc = (r, n, 0) →
    ∃ (u : Int) (k : Nat), r = acc + u * 128 ^ i ∧ n = (i : Int) + k ∧ 1 ≤ k ∧ k ≤ bs.length ∧ i + k ≤ last ∧ 0 ≤ u ∧ (i = 0 ∨ 0 < u) ∧ u < 128 ^ k ∧ ∀ f, k ≤ f + 1 → rowF f u = bs.take k := by
  induction bs with
  | nil => intro i acc r n _ _ h; simp [rowGo] at h
  | cons c cs ih =>
    intro i acc r n ho hi h
    have hc : 0 ≤ c ∧ c < 256 := ho c (List.mem_cons_self ..)
    have hcs : Oct cs := fun x hx => ho x (List.mem_cons_of_mem _ hx)
    rw [rowGo] at h
    by_cases h1 : i + 1 = last ∧ top < c
    · rw [if_pos h1] at h; simp at h
    · rw [if_neg h1] at h
      by_cases h2 : 128 ≤ c
      · rw [if_pos h2] at h
        obtain ⟨u, k, hr, hn, k1, k2, k3, u0, u1, u2, hf⟩ := ih (i + 1) _ r n hcs (by omega) h
        have up : 0 < u := by omega
        refine ⟨c % 128 + 128 * u, k + 1, ?_, by omega, by omega, by simp; omega, by omega, by omega, by omega, ?_, ?_⟩
        · rw [hr, Int.pow_succ, Int.add_mul, Int.mul_comm 128 u, Int.mul_assoc, Int.mul_comm 128 (128 ^ i), Int.add_assoc]
        · rw [Int.pow_succ]; omega
        · intro f hk
          obtain ⟨f', rfl⟩ : ∃ f', f = f' + 1 := ⟨f - 1, by omega⟩
          rw [rowF_more f' _ (by omega), show (c % 128 + 128 * u) / 128 = u by omega, hf f' (by omega), List.take_succ_cons]
          have e : (c % 128 + 128 * u) % 128 + 128 = c := by omega
          rw [e]; rfl
      · rw [if_neg h2] at h
        by_cases h3 : 0 < i ∧ c = 0
        · rw [if_pos h3] at h; simp at h
        · rw [if_neg h3] at h
          injection h with ha hb
          injection hb with hb _
          refine ⟨c, 1, ?_, by omega, by omega, by simp, by omega, by omega, by omega, by omega, ?_⟩
          · rw [← ha, Int.emod_eq_of_lt (by omega) (by omega)]
          · intro f _
            rw [rowF_last f c (by omega)]; simp

/-- Bytes that were read as a number, laid again. -/
theorem fixedB_leZ (l : List Int) (h : Oct l) : fixedB l.length (leZ l) = l := by
  induction l with
  | nil => simp [fixedB]
  | cons c cs ih =>
    have hc : 0 ≤ c ∧ c < 256 := h c (List.mem_cons_self ..)
    have hcs : Oct cs := fun x hx => h x (List.mem_cons_of_mem _ hx)
    have hi := ih hcs
    unfold fixedB at hi ⊢
    rw [List.length_cons, List.range_succ_eq_map, List.map_cons, List.map_map, leZ]
    congr 1
    · rw [Int.pow_zero]; omega
    · conv => rhs; rw [← hi]
      apply List.map_congr_left
      intro i _
      simp only [Function.comp]
      rw [Int.pow_succ, Int.mul_comm (256 ^ i) 256, ← Int.ediv_ediv_of_nonneg (by omega)]
      rw [show (c + 256 * leZ cs) / 256 = leZ cs by omega]

end Go.Proofs.Ytdnlfacfleemeaa

namespace Go.Proofs.Ytdnlfacfleemeaa
open Go.RowKit

def fixZ (bs : List Int) (n : Int) : Int × Int × Int := if n < 0 ∨ 8 < n then (0, 0, 1) else if (bs.length : Int) < n then (0, 0, 2) else (leZ (bs.take n.toNat), n, 0)

def leadZ (f : Int) (bs : List Int) (n : Int) : Int × Int × Int := if f = 0 then fixZ bs n else if f = 2 then rowGo 10 1 bs 0 0 else rowGo 9 127 bs 0 0

theorem fixed_tup (v : Value) (bs : List Int) (n : Int) (w : World) (h : Sl w v bs) (ho : Oct bs) (hl : bs.length ≤ 1000000000) :
    Calls Try.prog 83 #[v, .int .i64 n] w fun x w' => w' = w ∧ x = .returned (tup3 (fixZ bs n)) := by
  refine (fixed_any v bs n w h ho hl).mono ?_
  rintro x w' ⟨h1, h2⟩
  refine ⟨h1, h2.trans ?_⟩
  unfold fixZ
  split
  · rfl
  · split <;> rfl

set_option maxRecDepth 100000 in
set_option maxHeartbeats 800000 in
theorem lead_any (f : Int) (v : Value) (bs : List Int) (n : Int) (w : World) (h : Sl w v bs) (ho : Oct bs) (hl : bs.length ≤ 1000000000) :
    Calls Try.prog 78 #[.int .i64 f, v, .int .i64 n] w fun x w' => w' = w ∧ x = .returned (tup3 (leadZ f bs n)) := by
  unfold leadZ
  by_cases h0 : f = 0
  · rw [if_pos h0]
    subst h0
    obtain ⟨a, b, c, hr⟩ : ∃ a b c, fixZ bs n = (a, b, c) := ⟨_, _, _, rfl⟩
    have Hc : Calls Try.prog 83 #[v, .int .i64 n] w fun x w' => w' = w ∧ x = .returned (.tuple #[.int .u64 a, .int .i64 b, .int .i64 c]) := by
      have := fixed_tup v bs n w h ho hl
      rw [hr] at this
      exact this
    rw [hr]
    clear hr
    have HC := hid Hc
    clear Hc
    go_enter Try.func78, Try.ntmps78
    go_wp2_with (go_at_call 83; refine HC.out.mono ?_; rintro x w' ⟨hw, rfl⟩; subst hw)
    go_ret3
    exact ⟨rfl, rfl⟩
  · rw [if_neg h0]
    by_cases h2 : f = 2
    · rw [if_pos h2]
      subst h2
      obtain ⟨a, b, c, hr⟩ : ∃ a b c, rowGo 10 1 bs 0 0 = (a, b, c) := ⟨_, _, _, rfl⟩
      have Hc : Calls Try.prog 84 #[v, .int .i64 10, .int .u8 1] w fun x w' => w' = w ∧ x = .returned (.tuple #[.int .u64 a, .int .i64 b, .int .i64 c]) := by
        have := row_any v bs 10 1 w h ho hl (by omega) (by omega) (by omega) (by omega) (by omega)
        rw [hr] at this
        exact this
      rw [hr]
      clear hr
      have HC := hid Hc
      clear Hc
      go_enter Try.func78, Try.ntmps78
      go_wp2_with (go_at_call 84; refine HC.out.mono ?_; rintro x w' ⟨hw, rfl⟩; subst hw)
      go_ret3
      exact ⟨rfl, rfl⟩
    · rw [if_neg h2]
      obtain ⟨a, b, c, hr⟩ : ∃ a b c, rowGo 9 127 bs 0 0 = (a, b, c) := ⟨_, _, _, rfl⟩
      have Hc : Calls Try.prog 84 #[v, .int .i64 9, .int .u8 127] w fun x w' => w' = w ∧ x = .returned (.tuple #[.int .u64 a, .int .i64 b, .int .i64 c]) := by
        have := row_any v bs 9 127 w h ho hl (by omega) (by omega) (by omega) (by omega) (by omega)
        rw [hr] at this
        exact this
      rw [hr]
      clear hr
      have HC := hid Hc
      clear Hc
      go_enter Try.func78, Try.ntmps78
      go_wp2_with (go_at_call 84; refine HC.out.mono ?_; rintro x w' ⟨hw, rfl⟩; subst hw)
      go_ret3
      exact ⟨rfl, rfl⟩

end Go.Proofs.Ytdnlfacfleemeaa

namespace Go.Proofs.Ytdnlfacfleemeaa
open Go.RowKit

theorem Try.elem34 : Try.prog.underlying 34 = some (.slice (Try.prog.elem 34)) := by kernel_rfl
theorem Try.elemIs : Try.prog.elem 34 = 5 := by kernel_rfl
theorem size5 (w : World) : (sizeOf (Try.prog.elem 34)).run Try.prog w = .ok 1 w := by
  obtain ⟨i0, hi, hz0, hz1, hz2⟩ := info_parts Try.info5
  rw [Try.elemIs]
  simp [sizeOf, typeInfo, hi, hz1]

theorem sl_sliced {w : World} {ao : Option Addr} {bs : List Int} {cap : Nat} (hc : bs.length ≤ cap) (hx : bs ≠ [] → ∃ b off, ao = some ⟨b, off, none⟩ ∧ ∀ j x, bs[j]? = some x → w.cell? ⟨b, off + j, none⟩ = some (.int .u8 x))
    (lo hi : Nat) (h1 : lo ≤ hi) (h2 : hi ≤ bs.length) : Sl w (sliced ao lo hi cap 1) ((bs.drop lo).take (hi - lo)) := by
  have hl : ((bs.drop lo).take (hi - lo)).length = hi - lo := by simp; omega
  refine ⟨(if cap = lo then ao else ao.map (·.add (lo * 1))), cap - lo, by rw [hl]; rfl, by rw [hl]; omega, ?_⟩
  intro hne
  have hlt : lo < hi := by
    rcases Nat.lt_or_ge lo hi with h | h
    · exact h
    · exfalso; apply hne; apply List.eq_nil_of_length_eq_zero; rw [hl]; omega
  obtain ⟨b, off, rfl, hj⟩ := hx (by intro e; subst e; simp at h2; omega)
  refine ⟨b, off + lo, ?_, ?_⟩
  · rw [if_neg (by omega)]; simp [add_lit]
  · intro j x hx2
    rw [List.getElem?_take] at hx2
    split at hx2
    · rw [List.getElem?_drop] at hx2
      rw [Nat.add_assoc]
      exact hj (lo + j) x hx2
    · cases hx2

theorem sliced_own (ao : Option Addr) (n cap lo hi c : Nat) : ∀ k, (sliced ao lo hi cap 1).ownBlock = some k → (Value.slice ao n c).ownBlock = some k := by
  intro k hk
  cases ao with
  | none => unfold sliced at hk; split at hk <;> simp [Value.ownBlock] at hk
  | some a =>
    unfold sliced at hk
    split at hk
    · simpa [Value.ownBlock] using hk
    · simp only [Option.map_some, Value.ownBlock] at hk ⊢
      rw [← hk]
      unfold Addr.add
      split <;> rfl

theorem sl_from {w : World} {v : Value} {bs : List Int} (h : Sl w v bs) (lo : Nat) (h1 : lo ≤ bs.length) :
    ∃ rv, (∀ wx : World, (Instr.slice 34 v (some (.int .i64 lo)) none none).run Try.prog wx = .ok rv wx) ∧ Sl w rv (bs.drop lo) ∧ (∀ k, rv.ownBlock = some k → v.ownBlock = some k) := by
  obtain ⟨ao, cap, rfl, hc, hx⟩ := h
  refine ⟨sliced ao lo bs.length cap 1, ?_, ?_, sliced_own ao _ cap lo _ _⟩
  · intro wx
    rw [run_slice_l wx 34 ao bs.length cap Try.elem34 .i64 lo (by omega) (by omega), size5]
    rfl
  · have := sl_sliced hc hx lo bs.length h1 (Nat.le_refl _)
    rwa [List.take_of_length_le (by simp)] at this

theorem sl_part {w : World} {v : Value} {bs : List Int} (h : Sl w v bs) (lo hi : Nat) (h1 : lo ≤ hi) (h2 : hi ≤ bs.length) :
    ∃ rv, (∀ wx : World, (Instr.slice 34 v (some (.int .i64 lo)) (some (.int .i64 hi)) none).run Try.prog wx = .ok rv wx) ∧ Sl w rv ((bs.drop lo).take (hi - lo)) ∧ (∀ k, rv.ownBlock = some k → v.ownBlock = some k) := by
  obtain ⟨ao, cap, rfl, hc, hx⟩ := h
  refine ⟨sliced ao lo hi cap 1, ?_, sl_sliced hc hx lo hi h1 h2, sliced_own ao _ cap lo _ _⟩
  intro wx
  rw [run_slice_lh wx 34 ao bs.length cap Try.elem34 .i64 .i64 lo hi (by omega) (by omega) (by omega), size5]
  rfl

theorem sl_to {w : World} {v : Value} {bs : List Int} (h : Sl w v bs) (hi : Nat) (h2 : hi ≤ bs.length) :
    ∃ rv, (∀ wx : World, (Instr.slice 34 v none (some (.int .i64 hi)) none).run Try.prog wx = .ok rv wx) ∧ Sl w rv (bs.take hi) ∧ (∀ k, rv.ownBlock = some k → v.ownBlock = some k) := by
  obtain ⟨ao, cap, rfl, hc, hx⟩ := h
  refine ⟨sliced ao 0 hi cap 1, ?_, ?_, sliced_own ao _ cap 0 _ _⟩
  · intro wx
    rw [run_slice_h wx 34 ao bs.length cap Try.elem34 .i64 hi (by omega) (by omega), size5]
    rfl
  · have := sl_sliced hc hx 0 hi (Nat.zero_le _) h2
    simpa using this

/-- A text of these bytes. -/
def mkStr (l : List Int) : ByteArray := ⟨(l.map fun x => UInt8.ofNat x.toNat).toArray⟩

theorem sl_string {w : World} {v : Value} {bs : List Int} (h : Sl w v bs) : (convert 34 9 v).run Try.prog w = .ok (.string (mkStr bs)) w := by
  obtain ⟨ao, cap, rfl, hc, hx⟩ := h
  rw [run_convert_bytes_string w 34 9 5 ao _ cap Try.underlying34 Try.underlying5 Try.underlying9]
  by_cases hne : bs = []
  · subst hne
    cases ao with
    | none => rfl
    | some a =>
      have := run_bytesToString (P := Try.prog) w a 0 cap [] (by
        have := run_loadCells_list (P := Try.prog) w a [] (by intro j v h; cases h)
        simpa using this)
      exact this
  · obtain ⟨b, off, rfl, hj⟩ := hx hne
    have h1 := run_loadCells_list (P := Try.prog) w ⟨b, off, none⟩ (B8 bs) (by
      intro j v hv
      rw [List.getElem?_map, Option.map_eq_some_iff] at hv
      obtain ⟨x, hx1, rfl⟩ := hv
      rw [add_lit]
      exact hj j x hx1)
    simp only [List.length_map] at h1
    rw [run_bytesToString w ⟨b, off, none⟩ _ cap bs h1, foldl_push_bytes]
    simp [mkStr]

theorem Sl.drewN {w : World} {v : Value} {bs : List Int} (h : Sl w v bs) (n : Nat) : Sl (w.drewN n) v bs := by
  obtain ⟨ao, cap, rfl, hc, hx⟩ := h
  refine ⟨ao, cap, rfl, hc, fun hne => ?_⟩
  obtain ⟨b, off, rfl, hj⟩ := hx hne
  exact ⟨b, off, rfl, fun j x e => by simpa using hj j x e⟩

end Go.Proofs.Ytdnlfacfleemeaa

namespace Go.Proofs.Ytdnlfacfleemeaa
open Go.RowKit

theorem rowF_enough (k : Nat) : ∀ (f : Nat) (u : Int), u < 128 ^ (f + 1) → rowF (f + k) u = rowF f u := by
  intro f
  induction f with
  | zero => intro u h; simp at h; rw [rowF_last _ u (by omega), rowF_last _ u (by omega)]
  | succ f ih =>
    intro u h
    by_cases hu : 127 < u
    · rw [show f + 1 + k = f + k + 1 by omega, rowF_more _ u hu, rowF_more _ u hu, ih _ (pow_step f u h)]
    · rw [rowF_last _ u hu, rowF_last _ u hu]

theorem lead_num (f : Int) (hf : f = 1 ∨ f = 3) (v n : Int) (rest : List Int) (h0 : 0 ≤ v) (h1 : v < 9223372036854775808) : leadZ f (rowF 10 v ++ rest) n = (v, ((rowF 10 v).length : Int), 0) := by
  have e : rowF 10 v = rowF 8 v := rowF_enough 2 8 v (by simpa using h1)
  unfold leadZ
  rw [if_neg (by omega), if_neg (by omega), e, rowGo_rowF 9 127 rest 8 v 0 0 h0 (by simpa using h1) (.inl rfl) (by omega) (fun _ => by simpa using h1) (by omega) (by omega)]
  simp

theorem lead_int (v n : Int) (rest : List Int) (h0 : 0 ≤ v) (h1 : v < 18446744073709551616) : leadZ 2 (rowF 10 v ++ rest) n = (v, ((rowF 10 v).length : Int), 0) := by
  have e : rowF 10 v = rowF 9 v := rowF_enough 1 9 v (by simp; omega)
  unfold leadZ
  rw [if_neg (by omega), if_pos rfl, e, rowGo_rowF 10 1 rest 9 v 0 0 h0 (by simp; omega) (.inl rfl) (by omega) (fun _ => by simpa using h1) (by omega) (by omega)]
  simp

theorem lead_fix (v n : Int) (rest : List Int) (h0 : 0 ≤ v) (n0 : 0 ≤ n) (n8 : n ≤ 8) : leadZ 0 (fixedB n.toNat v ++ rest) n = (v % 256 ^ n.toNat, n, 0) := by
  unfold leadZ fixZ
  rw [if_pos rfl, if_neg (by omega), if_neg (by simp [fixedB_len]; omega), List.take_left' (fixedB_len _ _), leZ_fixedB _ _ h0]

theorem mkStr_strBs (s : ByteArray) : mkStr (strBs s) = s := by
  unfold mkStr strBs
  rw [List.map_map]
  have : ((fun x : Int => UInt8.ofNat x.toNat) ∘ fun b : UInt8 => (b.toNat : Int)) = id := by
    funext b; simp
  rw [this, List.map_id]

end Go.Proofs.Ytdnlfacfleemeaa

namespace Go.Proofs.Ytdnlfacfleemeaa
open Go.RowKit Go.Lib

/-- Behind a laying of ys. -/
def LayPost (B : Nat) (xs ys : List Int) (w : World) (e : Ending) (w' : World) : Prop := ∃ v', e = .returned v' ∧ w'.ownsRow B 5 1 v' (xs ++ ys).length (B8 (xs ++ ys)) ∧ Below B w w'

theorem below_grown {B : Nat} {w w1 w2 : World} {v : Value} {n : Nat} {xs : List Value} (h : Below B w w1) (hB : B ≤ w.heap.size) (ho : w1.ownsRow B 5 1 v n xs) (hg : w1.grownBy w2 v.ownBlock) : Below B w w2 := by
  refine h.trans ((Below.refl B w1).grown hg (Nat.le_trans hB h.size) ?_)
  intro k hk
  exact (ho.lt k hk).1

theorem lay_post {B : Nat} {w w1 : World} {v v' : Value} {xs : List Int} {s : ByteArray} (hB : B ≤ w.heap.size) (ho : w.ownsRow B 5 1 v xs.length (B8 xs)) (hown : w1.ownsRow B 5 1 v' (xs.length + s.size) (B8 xs ++ strCells s)) (hg : w.grownBy w1 v.ownBlock) :
    w1.ownsRow B 5 1 v' (xs ++ strBs s).length (B8 (xs ++ strBs s)) ∧ Below B w w1 := by
  refine ⟨?_, below_grown (Below.refl B w) hB ho hg⟩
  rw [strCells_B8] at hown
  simpa [strBs_len] using hown

end Go.Proofs.Ytdnlfacfleemeaa

namespace Go.Proofs.Ytdnlfacfleemeaa
open Go.RowKit Go.Lib

/-- The text of seven. -/
abbrev s7 : ByteArray := ⟨#[55]⟩

end Go.Proofs.Ytdnlfacfleemeaa

namespace Go.Proofs.Ytdnlfacfleemeaa
open Go.RowKit Go.Lib

/-- A thing of function F lays ys. -/
def Lays' (F : Nat) (x : Value) (ys : List Int) (w0 : World) : Prop := ∀ (B : Nat) (v : Value) (xs : List Int) (w : World), w.ownsRow B 5 1 v xs.length (B8 xs) → B ≤ w.heap.size → Below w0.heap.size w0 w → xs.length ≤ 1000000 → Calls Try.prog F #[x, v] w (LayPost B xs ys w)

/-- What Join answers of two texts. -/
def joinV (zs : List Int) : Value := if zs.length ≤ 256 then .tuple #[vl 2 0 (mkStr zs), .int .i64 0] else .tuple #[vl 0 0 emp, .int .i64 4]

theorem own_shape {w : World} {B : Nat} {e : TypeId} {size : Nat} {v : Value} {n : Nat} {xs : List Value} (h : w.ownsRow B e size v n xs) : ∃ ao c, v = .slice ao n c := by
  rcases h.2 with ⟨e1, e2⟩ | ⟨g, cap, cur, e1, _⟩
  · exact ⟨none, 0, by rw [e1, e2]⟩
  · exact ⟨_, _, e1⟩

theorem sl_text {w : World} {v : Value} {bs : List Int} (h : Sl w v bs) : (convert 34 107 v).run Try.prog w = .ok (.string (mkStr bs)) w := by
  obtain ⟨ao, cap, rfl, hc, hx⟩ := h
  rw [run_convert_bytes_string w 34 107 5 ao _ cap Try.underlying34 Try.underlying5 Try.underlying107]
  by_cases hne : bs = []
  · subst hne
    cases ao with
    | none => rfl
    | some a =>
      have := run_bytesToString (P := Try.prog) w a 0 cap [] (by
        have := run_loadCells_list (P := Try.prog) w a [] (by intro j v h; cases h)
        simpa using this)
      exact this
  · obtain ⟨b, off, rfl, hj⟩ := hx hne
    have h1 := run_loadCells_list (P := Try.prog) w ⟨b, off, none⟩ (B8 bs) (by
      intro j v hv
      rw [List.getElem?_map, Option.map_eq_some_iff] at hv
      obtain ⟨x, hx1, rfl⟩ := hv
      rw [add_lit]
      exact hj j x hx1)
    simp only [List.length_map] at h1
    rw [run_bytesToString w ⟨b, off, none⟩ _ cap bs h1, foldl_push_bytes]
    simp [mkStr]

theorem owns_nil (w : World) (B : Nat) : w.ownsRow B 5 1 (.slice none 0 0) ([] : List Int).length (B8 []) := ⟨rfl, .inl ⟨rfl, rfl⟩⟩

theorem nilAhead60 (sv : Value) (w : World) : (nilAhead 266 105 sv "treadle/datum.lay").run Try.prog w = .ok (some false) w := by kernel_rfl
theorem method60 (sv : Value) (w : World) : (method 266 105 sv "treadle/datum.lay").run Try.prog w = .ok (108, sv) w := by kernel_rfl
theorem nilAhead62 (sv : Value) (w : World) : (nilAhead 266 107 sv "treadle/datum.lay").run Try.prog w = .ok (some false) w := by kernel_rfl
theorem method62 (sv : Value) (w : World) : (method 266 107 sv "treadle/datum.lay").run Try.prog w = .ok (110, sv) w := by kernel_rfl

/-- Behind both layings. -/
theorem join_behind {w w2 w3 w4 : World} {r : Nat} {a b c : Value} {zs : List Int} {v : Value} (h2 : w2.heap[r]? = some (.cells #[a, b, c] 50 (0, 0)) ∧ Below w.heap.size w w2) (h3 : Below w2.heap.size w2 w3) (h4 : Below w2.heap.size w3 w4)
    (ho : w4.ownsRow w2.heap.size 5 1 v zs.length (B8 zs)) : w4.heap[r]? = some (.cells #[a, b, c] 50 (0, 0)) ∧ Below w.heap.size w w4 ∧ Sl w4 v zs := by
  have h5 := h3.trans h4
  exact ⟨blk_of h5 h2.1 (lt_of h2.1), below_on h2.2 h5, sl_of_owns ho⟩

end Go.Proofs.Ytdnlfacfleemeaa

namespace Go.Proofs.Ytdnlfacfleemeaa
open Go.RowKit

/-- A Reader at block p, its bytes in block g. -/
def Rd (w : World) (p : Nat) (g : Option Nat) (bs : List Int) (at' : Nat) (e : Int) : Prop :=
  ∃ v, w.heap[p]? = some (.cells #[v, .int .i64 at', .int .i64 e] 109 (0, 0)) ∧ v.ownBlock = g ∧ Sl w v bs ∧ g ≠ some p ∧ Oct bs ∧ at' ≤ bs.length ∧ bs.length ≤ 1000000000

theorem cell_of_three {w : World} {p : Nat} {a b c : Value} {t : TypeId} (h : w.heap[p]? = some (.cells #[a, b, c] t (0, 0))) : w.cell? ⟨p, 0, none⟩ = some a ∧ w.cell? ⟨p, 1, none⟩ = some b ∧ w.cell? ⟨p, 2, none⟩ = some c := by
  refine ⟨?_, ?_, ?_⟩
  · rw [cell_of_row w p 0 _ t (0, 0) h]; rfl
  · rw [cell_of_row w p 1 _ t (0, 0) h]; rfl
  · rw [cell_of_row w p 2 _ t (0, 0) h]; rfl

/-- A scope whose one label is jumped to at most once. -/
theorem wp_scope_once {P : Program} {a : Act} {w : World} {Q : Exit → Act → World → Prop} {c rest : Code} (l : Nat) (hf : findLabel c l = some rest)
    (first : c.wp P (Exit.jump l (fun a' w' => rest.wp P (Exit.noGoto Q) a' w') Q) a w) : (Code.scope c).wp P Q a w := by
  refine wp_scope_jumps l (fun a' w' => rest.wp P (Exit.noGoto Q) a' w') (fun _ _ => 0) hf first ?_
  intro a' w' h
  refine wp_mono h ?_
  intro e a2 w2 hq
  cases e with
  | goto l' => exact hq.elim
  | normal => exact hq
  | exit id => exact hq
  | ret => exact hq
  | panic ch => exact hq
  | outgrown => exact hq

set_option maxRecDepth 100000 in
set_option maxHeartbeats 800000 in
theorem take_stopped (p : Nat) (f n e : Int) (w : World) (c2 : w.cell? ⟨p, 2, none⟩ = some (.int .i64 e)) (he : (e == 0) = false) :
    Calls Try.prog 68 #[.pointer (some ⟨p, 0, none⟩), .int .i64 f, .int .i64 n] w fun x w' => w' = w ∧ x = .returned (.tuple #[.int .u64 0, .string ⟨#[]⟩]) := by
  have he2 : (e != 0) = true := by simpa using he
  go_enter Try.func68, Try.ntmps68
  go_wp2
  refine wp_scope_once 0 rfl ?_
  go_wp2
  simp only [Exit.jump]
  go_ret2
  exact ⟨rfl, rfl⟩

set_option maxRecDepth 100000 in
set_option maxHeartbeats 800000 in
theorem take_nil (f n : Int) (w : World) :
    Calls Try.prog 68 #[.pointer none, .int .i64 f, .int .i64 n] w fun x w' => w' = w ∧ x = .returned (.tuple #[.int .u64 0, .string ⟨#[]⟩]) := by
  go_enter Try.func68, Try.ntmps68
  go_wp2
  refine wp_scope_once 0 rfl ?_
  go_wp2
  simp only [Exit.jump]
  go_ret2
  exact ⟨rfl, rfl⟩

set_option maxRecDepth 100000 in
set_option maxHeartbeats 800000 in
theorem take_lead_err (p : Nat) (v rv : Value) (at' : Nat) (f n u sz e1 : Int) (w : World) (c0 : w.cell? ⟨p, 0, none⟩ = some v) (c1 : w.cell? ⟨p, 1, none⟩ = some (.int .i64 at')) (c2 : w.cell? ⟨p, 2, none⟩ = some (.int .i64 0))
    (f2 : w.frozen? ⟨p, 2, none⟩ = false) (hsl : ∀ wx : World, (Instr.slice 34 v (some (.int .i64 at')) none none).run Try.prog wx = .ok rv wx)
    (hc : ∀ nq : Nat, Calls Try.prog 78 #[.int .i64 f, rv, .int .i64 n] (w.drewN nq) fun x w' => w' = w.drewN nq ∧ x = .returned (.tuple #[.int .u64 u, .int .i64 sz, .int .i64 e1]))
    (he : e1 ≠ 0) :
    Calls Try.prog 68 #[.pointer (some ⟨p, 0, none⟩), .int .i64 f, .int .i64 n] w fun x w' => (∃ nq, w' = (w.drewN nq).setCell ⟨p, 2, none⟩ (.int .i64 e1)) ∧ x = .returned (.tuple #[.int .u64 0, .string ⟨#[]⟩]) := by
  have he2 : (e1 != 0) = true := by simpa using he
  have HC := hid hc
  clear hc he
  go_enter Try.func68, Try.ntmps68
  go_wp2
  refine wp_scope_once 0 rfl ?_
  go_wp2
  go_quiet (fail)
  have hcw := hid (HC.out nq)
  clear HC
  go_wp2_with (go_at_call 78; refine hcw.out.mono ?_; rintro x w' ⟨hw, rfl⟩; subst hw)
  go_step3
  refine ⟨rfl, ?_⟩
  go_wp2
  rw [Exit.noGoto_ret]
  go_ret2
  exact ⟨⟨nq, rfl⟩, rfl⟩

set_option maxRecDepth 100000 in
set_option maxHeartbeats 800000 in
theorem take_plain (p : Nat) (v rv : Value) (at' : Nat) (f n u sz e1 : Int) (w : World) (c0 : w.cell? ⟨p, 0, none⟩ = some v) (c1 : w.cell? ⟨p, 1, none⟩ = some (.int .i64 at')) (c2 : w.cell? ⟨p, 2, none⟩ = some (.int .i64 0))
    (f1 : w.frozen? ⟨p, 1, none⟩ = false) (hsl : ∀ wx : World, (Instr.slice 34 v (some (.int .i64 at')) none none).run Try.prog wx = .ok rv wx)
    (hc : ∀ nq : Nat, Calls Try.prog 78 #[.int .i64 f, rv, .int .i64 n] (w.drewN nq) fun x w' => w' = w.drewN nq ∧ x = .returned (.tuple #[.int .u64 u, .int .i64 sz, .int .i64 e1]))
    (he : e1 = 0) (hf : f ≠ 3) (hsz0 : 0 ≤ sz) (hsz1 : (at' : Int) + sz ≤ 1000000000) :
    Calls Try.prog 68 #[.pointer (some ⟨p, 0, none⟩), .int .i64 f, .int .i64 n] w fun x w' => (∃ nq, w' = (w.drewN nq).setCell ⟨p, 1, none⟩ (.int .i64 ((at' : Int) + sz))) ∧ x = .returned (.tuple #[.int .u64 u, .string ⟨#[]⟩]) := by
  subst he
  have hf2 : (f == 3) = false := by simpa using hf
  have HC := hid hc
  clear hc hf
  go_enter Try.func68, Try.ntmps68
  go_wp2
  refine wp_scope_once 0 rfl ?_
  go_wp2
  go_quiet (fail)
  have hcw := hid (HC.out nq)
  clear HC
  go_wp2_with (go_at_call 78; refine hcw.out.mono ?_; rintro x w' ⟨hw, rfl⟩; subst hw)
  simp only [Exit.jump]
  go_ret2
  exact ⟨⟨nq, rfl⟩, rfl⟩

set_option maxRecDepth 100000 in
set_option maxHeartbeats 800000 in
theorem take_text_long (p : Nat) (v rv : Value) (at' : Nat) (n u sz : Int) (w : World) (c0 : w.cell? ⟨p, 0, none⟩ = some v) (c1 : w.cell? ⟨p, 1, none⟩ = some (.int .i64 at')) (c2 : w.cell? ⟨p, 2, none⟩ = some (.int .i64 0))
    (f2 : w.frozen? ⟨p, 2, none⟩ = false) (hsl : ∀ wx : World, (Instr.slice 34 v (some (.int .i64 at')) none none).run Try.prog wx = .ok rv wx)
    (hc : ∀ nq : Nat, Calls Try.prog 78 #[.int .i64 3, rv, .int .i64 n] (w.drewN nq) fun x w' => w' = w.drewN nq ∧ x = .returned (.tuple #[.int .u64 u, .int .i64 sz, .int .i64 0]))
    (m : Nat) (_hlen : ∀ wx : World, (Builtin.len_ #[34] 3 #[rv]).run Try.prog wx = .ok (.int .i64 m) wx) (hu0 : 0 ≤ u) (hu1 : u < 9223372036854775808) (hn0 : -9223372036854775808 ≤ n) (hn1 : n < 9223372036854775808) (_hsz0 : 0 ≤ sz) (_hsz1 : sz ≤ m) (_hm : (at' : Int) + m ≤ 1000000000) (hlong : max n 0 < u) :
    Calls Try.prog 68 #[.pointer (some ⟨p, 0, none⟩), .int .i64 3, .int .i64 n] w fun x w' => (∃ nq, w' = (w.drewN nq).setCell ⟨p, 2, none⟩ (.int .i64 4)) ∧ x = .returned (.tuple #[.int .u64 0, .string ⟨#[]⟩]) := by
  have HC := hid hc
  clear hc
  by_cases hn : 0 ≤ n
  · have hx : n < u := by omega
    clear hlong
    go_enter Try.func68, Try.ntmps68
    go_wp2
    refine wp_scope_once 0 rfl ?_
    go_wp2
    go_quiet (fail)
    have hcw := hid (HC.out nq)
    clear HC
    go_wp2_with (go_at_call 78; refine hcw.out.mono ?_; rintro x w' ⟨hw, rfl⟩; subst hw)
    go_step3
    refine ⟨rfl, ?_⟩
    go_wp2
    rw [Exit.noGoto_ret]
    go_ret2
    exact ⟨⟨nq, rfl⟩, rfl⟩
  · have hx : 0 < u := by omega
    have hx2 : n < 0 := by omega
    clear hlong hn
    go_enter Try.func68, Try.ntmps68
    go_wp2
    refine wp_scope_once 0 rfl ?_
    go_wp2
    go_quiet (fail)
    have hcw := hid (HC.out nq)
    clear HC
    go_wp2_with (go_at_call 78; refine hcw.out.mono ?_; rintro x w' ⟨hw, rfl⟩; subst hw)
    go_step3
    refine ⟨rfl, ?_⟩
    go_wp2
    rw [Exit.noGoto_ret]
    go_ret2
    exact ⟨⟨nq, rfl⟩, rfl⟩

set_option maxRecDepth 100000 in
set_option maxHeartbeats 800000 in
theorem take_text_short (p : Nat) (v rv : Value) (at' : Nat) (n u sz : Int) (w : World) (c0 : w.cell? ⟨p, 0, none⟩ = some v) (c1 : w.cell? ⟨p, 1, none⟩ = some (.int .i64 at')) (c2 : w.cell? ⟨p, 2, none⟩ = some (.int .i64 0))
    (f2 : w.frozen? ⟨p, 2, none⟩ = false) (hsl : ∀ wx : World, (Instr.slice 34 v (some (.int .i64 at')) none none).run Try.prog wx = .ok rv wx)
    (hc : ∀ nq : Nat, Calls Try.prog 78 #[.int .i64 3, rv, .int .i64 n] (w.drewN nq) fun x w' => w' = w.drewN nq ∧ x = .returned (.tuple #[.int .u64 u, .int .i64 sz, .int .i64 0]))
    (m : Nat) (hlen : ∀ wx : World, (Builtin.len_ #[34] 3 #[rv]).run Try.prog wx = .ok (.int .i64 m) wx) (_hu0 : 0 ≤ u) (_hu1 : u < 9223372036854775808) (hn0 : -9223372036854775808 ≤ n) (hn1 : n < 9223372036854775808) (hsz0 : 0 ≤ sz) (hsz1 : sz ≤ m) (hm : (at' : Int) + m ≤ 1000000000) (hlong : u ≤ max n 0) (hsh : (m : Int) - sz < u) :
    Calls Try.prog 68 #[.pointer (some ⟨p, 0, none⟩), .int .i64 3, .int .i64 n] w fun x w' => (∃ nq, w' = (w.drewN nq).setCell ⟨p, 2, none⟩ (.int .i64 2)) ∧ x = .returned (.tuple #[.int .u64 0, .string ⟨#[]⟩]) := by
  have HC := hid hc
  clear hc
  by_cases hn : 0 ≤ n
  · have hx : u ≤ n := by omega
    clear hlong
    go_enter Try.func68, Try.ntmps68
    go_wp2
    refine wp_scope_once 0 rfl ?_
    go_wp2
    go_quiet (fail)
    have hcw := hid (HC.out nq)
    clear HC
    go_wp2_with (go_at_call 78; refine hcw.out.mono ?_; rintro x w' ⟨hw, rfl⟩; subst hw)
    go_step3
    refine ⟨rfl, ?_⟩
    go_wp2
    rw [Exit.noGoto_ret]
    go_ret2
    exact ⟨⟨nq, rfl⟩, rfl⟩
  · exfalso; omega

set_option maxRecDepth 100000 in
set_option maxHeartbeats 800000 in
theorem take_text_ok (p : Nat) (v rv : Value) (at' : Nat) (n u sz : Int) (w : World) (c0 : w.cell? ⟨p, 0, none⟩ = some v) (c1 : w.cell? ⟨p, 1, none⟩ = some (.int .i64 at')) (c2 : w.cell? ⟨p, 2, none⟩ = some (.int .i64 0))
    (f1 : w.frozen? ⟨p, 1, none⟩ = false) (hsl : ∀ wx : World, (Instr.slice 34 v (some (.int .i64 at')) none none).run Try.prog wx = .ok rv wx)
    (hc : ∀ nq : Nat, Calls Try.prog 78 #[.int .i64 3, rv, .int .i64 n] (w.drewN nq) fun x w' => w' = w.drewN nq ∧ x = .returned (.tuple #[.int .u64 u, .int .i64 sz, .int .i64 0]))
    (m : Nat) (hlen : ∀ wx : World, (Builtin.len_ #[34] 3 #[rv]).run Try.prog wx = .ok (.int .i64 m) wx) (hu0 : 0 ≤ u) (hu1 : u < 9223372036854775808) (hn0 : -9223372036854775808 ≤ n) (hn1 : n < 9223372036854775808) (hsz0 : 0 ≤ sz) (hsz1 : sz ≤ m) (hm : (at' : Int) + m ≤ 1000000000) (hlong : u ≤ max n 0) (hsh : u ≤ (m : Int) - sz) (rv2 : Value) (s : ByteArray) (hsl2 : ∀ wx : World, (Instr.slice 34 rv (some (.int .i64 sz)) (some (.int .i64 (sz + u))) none).run Try.prog wx = .ok rv2 wx) (hstr : ∀ nq : Nat, (convert 34 9 rv2).run Try.prog (w.drewN nq) = .ok (.string s) (w.drewN nq)) :
    Calls Try.prog 68 #[.pointer (some ⟨p, 0, none⟩), .int .i64 3, .int .i64 n] w fun x w' => (∃ nq, w' = (w.drewN nq).setCell ⟨p, 1, none⟩ (.int .i64 ((at' : Int) + (sz + u)))) ∧ x = .returned (.tuple #[.int .u64 u, .string s]) := by
  have HC := hid hc
  clear hc
  by_cases hn : 0 ≤ n
  · have hx : u ≤ n := by omega
    clear hlong
    go_enter Try.func68, Try.ntmps68
    go_wp2
    refine wp_scope_once 0 rfl ?_
    go_wp2
    go_quiet (fail)
    have hcw := hid (HC.out nq)
    have hst := hstr nq
    clear HC
    go_wp2_with (go_at_call 78; refine hcw.out.mono ?_; rintro x w' ⟨hw, rfl⟩; subst hw)
    simp only [Exit.jump]
    go_ret2
    exact ⟨⟨nq, rfl⟩, rfl⟩
  · have hx2 : n < 0 := by omega
    obtain rfl : u = 0 := by omega
    simp only [Int.add_zero] at hsl2 ⊢
    clear hlong hn hu0 hu1
    go_enter Try.func68, Try.ntmps68
    go_wp2
    refine wp_scope_once 0 rfl ?_
    go_wp2
    go_quiet (fail)
    have hcw := hid (HC.out nq)
    have hst := hstr nq
    clear HC
    go_wp2_with (go_at_call 78; refine hcw.out.mono ?_; rintro x w' ⟨hw, rfl⟩; subst hw)
    simp only [Exit.jump]
    go_ret2
    exact ⟨⟨nq, rfl⟩, rfl⟩

end Go.Proofs.Ytdnlfacfleemeaa
