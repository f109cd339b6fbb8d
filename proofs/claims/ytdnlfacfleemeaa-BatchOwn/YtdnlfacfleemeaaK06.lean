import Derived.Test.YtdnlfacfleemeaaK05
import Derived.Test.YtdnlfacfleemeaaK02
namespace Go.Proofs.Ytdnlfacfleemeaa
open Go.RowKit

theorem pow_mono128 {a b : Nat} (h : a ≤ b) : (128 : Int) ^ a ≤ 128 ^ b := by
  obtain ⟨d, rfl⟩ := Nat.le.dest h
  clear h
  induction d with
  | zero => exact Int.le_refl _
  | succ d ih =>
    have hp : (0 : Int) < 128 ^ (a + d) := Int.pow_pos (by omega)
    rw [← Nat.add_assoc, Int.pow_succ]
    omega

theorem rowGo_ok (last : Nat) (top : Int) (ht0 : 0 ≤ top) (ht : top < 128) (l : List Int) : ∀ (i : Nat) (u : Int), Oct l → 0 ≤ u → u < 128 ^ i → i < last → (rowGo last top l i u).2.2 = 0 →
    (i : Int) + 1 ≤ (rowGo last top l i u).2.1 ∧ (rowGo last top l i u).2.1 ≤ i + l.length ∧ 0 ≤ (rowGo last top l i u).1 ∧ (rowGo last top l i u).1 < (top + 1) * 128 ^ (last - 1) := by
  induction l with
  | nil => intro i u _ _ _ _ h; simp [rowGo] at h
  | cons c cs ih =>
    intro i u ho h0 h1 hi
    have hc := ho c (List.mem_cons_self ..)
    have ho2 : Oct cs := fun x hx => ho x (List.mem_cons_of_mem _ hx)
    rw [rowGo]
    by_cases a1 : i + 1 = last ∧ top < c
    · rw [if_pos a1]; intro h; simp at h
    · rw [if_neg a1]
      by_cases a2 : 128 ≤ c
      · rw [if_pos a2]
        intro h
        have hb := seven_bd u (c % 128) i h0 h1 (by omega) (by omega)
        obtain ⟨q1, q2, q3, q4⟩ := ih (i + 1) _ ho2 hb.1 hb.2 (by omega) h
        refine ⟨by omega, ?_, q3, q4⟩
        simp only [List.length_cons]
        omega
      · rw [if_neg a2]
        by_cases a3 : 0 < i ∧ c = 0
        · rw [if_pos a3]; intro h; simp at h
        · rw [if_neg a3]
          intro _
          have hcm : c % 128 = c := by omega
          simp only [hcm, List.length_cons]
          have hp : (0 : Int) < 128 ^ i := Int.pow_pos (by omega)
          have hn : 0 ≤ c * 128 ^ i := Int.mul_nonneg hc.1 (by omega)
          refine ⟨by omega, by omega, by omega, ?_⟩
          by_cases hl : i + 1 = last
          · obtain rfl : i = last - 1 := by omega
            have : c ≤ top := by omega
            have hm : c * 128 ^ (last - 1) ≤ top * 128 ^ (last - 1) := Int.mul_le_mul_of_nonneg_right this (by omega)
            rw [Int.add_mul]
            omega
          · have hb := seven_bd u c i h0 h1 hc.1 (by omega)
            have hm := pow_mono128 (show i + 1 ≤ last - 1 by omega)
            have hm2 : 1 * 128 ^ (last - 1) ≤ (top + 1) * 128 ^ (last - 1) := Int.mul_le_mul_of_nonneg_right (by omega) (by have : (0 : Int) < 128 ^ (last - 1) := Int.pow_pos (by omega); omega)
            omega

theorem leadZ_ok (f : Int) (bs : List Int) (n : Int) (ho : Oct bs) (h : (leadZ f bs n).2.2 = 0) :
    0 ≤ (leadZ f bs n).2.1 ∧ (leadZ f bs n).2.1 ≤ bs.length ∧ 0 ≤ (leadZ f bs n).1 ∧ (leadZ f bs n).1 < 18446744073709551616 ∧ (f ≠ 0 → f ≠ 2 → (leadZ f bs n).1 < 9223372036854775808) := by
  unfold leadZ at h ⊢
  by_cases h0 : f = 0
  · rw [if_pos h0] at h ⊢
    unfold fixZ at h ⊢
    by_cases a1 : n < 0 ∨ 8 < n
    · rw [if_pos a1] at h; simp at h
    · rw [if_neg a1] at h ⊢
      by_cases a2 : (bs.length : Int) < n
      · rw [if_pos a2] at h; simp at h
      · rw [if_neg a2]
        have hb := leZ_bd (bs.take n.toNat) (fun x hx => ho x (List.mem_of_mem_take hx))
        have hl : (bs.take n.toNat).length = n.toNat := by simp; omega
        rw [hl] at hb
        have := pow_le8 n.toNat (by omega)
        exact ⟨by dsimp only; omega, by dsimp only; omega, hb.1, by dsimp only; omega, fun h => absurd h0 h⟩
  · rw [if_neg h0] at h ⊢
    by_cases h2 : f = 2
    · rw [if_pos h2] at h ⊢
      obtain ⟨q1, q2, q3, q4⟩ := rowGo_ok 10 1 (by omega) (by omega) bs 0 0 ho (by omega) (by decide) (by omega) h
      have e : ((1 : Int) + 1) * 128 ^ (10 - 1) = 18446744073709551616 := by decide
      rw [e] at q4
      exact ⟨by omega, by omega, q3, q4, fun _ h => absurd h2 h⟩
    · rw [if_neg h2] at h ⊢
      obtain ⟨q1, q2, q3, q4⟩ := rowGo_ok 9 127 (by omega) (by omega) bs 0 0 ho (by omega) (by decide) (by omega) h
      have e : ((127 : Int) + 1) * 128 ^ (9 - 1) = 9223372036854775808 := by decide
      rw [e] at q4
      exact ⟨by omega, by omega, q3, by omega, fun _ _ => q4⟩

/-- What 'take' answers and leaves: number, text, place, error. -/
def takeZ (f n : Int) (bs : List Int) (at' : Nat) (e : Int) : (Int × List Int) × Nat × Int :=
  if e = 0 then
    if (leadZ f (bs.drop at') n).2.2 = 0 then
      if f = 3 then
        if max n 0 < (leadZ f (bs.drop at') n).1 then ((0, []), at', 4)
        else if ((bs.drop at').length : Int) - (leadZ f (bs.drop at') n).2.1 < (leadZ f (bs.drop at') n).1 then ((0, []), at', 2)
        else (((leadZ f (bs.drop at') n).1, ((bs.drop at').drop (leadZ f (bs.drop at') n).2.1.toNat).take (leadZ f (bs.drop at') n).1.toNat), at' + ((leadZ f (bs.drop at') n).2.1 + (leadZ f (bs.drop at') n).1).toNat, 0)
      else (((leadZ f (bs.drop at') n).1, []), at' + (leadZ f (bs.drop at') n).2.1.toNat, 0)
    else ((0, []), at', (leadZ f (bs.drop at') n).2.2)
  else ((0, []), at', e)

/-- What a call on a Reader leaves. -/
def RdStep (p : Nat) (g : Option Nat) (w w' : World) (bs : List Int) (at' : Nat) (e : Int) : Prop := Rd w' p g bs at' e ∧ Kept (fun k => k = p) w w'

theorem heap3_set1 {w : World} {p : Nat} {a b c x : Value} {t : TypeId} (h : w.heap[p]? = some (.cells #[a, b, c] t (0, 0))) : (w.setCell ⟨p, 1, none⟩ x).heap[p]? = some (.cells #[a, x, c] t (0, 0)) := by
  simp [World.setCell, Array.getElem?_modify, h]
theorem heap3_set2 {w : World} {p : Nat} {a b c x : Value} {t : TypeId} (h : w.heap[p]? = some (.cells #[a, b, c] t (0, 0))) : (w.setCell ⟨p, 2, none⟩ x).heap[p]? = some (.cells #[a, b, x] t (0, 0)) := by
  simp [World.setCell, Array.getElem?_modify, h]

theorem heap_drewN (w : World) (n : Nat) : (w.drewN n).heap = w.heap := by simp

theorem kept_drewN (S : Nat → Prop) (w : World) (n : Nat) : Kept S w (w.drewN n) := by
  exact ⟨rfl, rfl, rfl, Nat.le_refl _, fun _ _ _ => rfl⟩

theorem rd_set1 {w : World} {p : Nat} {g : Option Nat} {bs : List Int} {at' : Nat} {e : Int} (h : Rd w p g bs at' e) (nq : Nat) (a2 : Nat) (ha : a2 ≤ bs.length) : RdStep p g w ((w.drewN nq).setCell ⟨p, 1, none⟩ (.int .i64 a2)) bs a2 e := by
  obtain ⟨v, h1, h2, h3, h4, h5, _, h7⟩ := h
  have hk : Kept (fun k => k = p) w ((w.drewN nq).setCell ⟨p, 1, none⟩ (.int .i64 a2)) := Kept.setCell (S := fun k => k = p) (p := ⟨p, 1, none⟩) (kept_drewN _ w nq) (fun _ => rfl) _
  refine ⟨⟨v, heap3_set1 (by rw [heap_drewN]; exact h1), h2, h3.kept hk ?_, h4, h5, ha, h7⟩, hk⟩
  intro k hk2 e
  apply h4
  rw [← h2, hk2, e]

theorem rd_set2 {w : World} {p : Nat} {g : Option Nat} {bs : List Int} {at' : Nat} {e : Int} (h : Rd w p g bs at' e) (nq : Nat) (e2 : Int) : RdStep p g w ((w.drewN nq).setCell ⟨p, 2, none⟩ (.int .i64 e2)) bs at' e2 := by
  obtain ⟨v, h1, h2, h3, h4, h5, h6, h7⟩ := h
  have hk : Kept (fun k => k = p) w ((w.drewN nq).setCell ⟨p, 2, none⟩ (.int .i64 e2)) := Kept.setCell (S := fun k => k = p) (p := ⟨p, 2, none⟩) (kept_drewN _ w nq) (fun _ => rfl) _
  refine ⟨⟨v, heap3_set2 (by rw [heap_drewN]; exact h1), h2, h3.kept hk ?_, h4, h5, h6, h7⟩, hk⟩
  intro k hk2 e
  apply h4
  rw [← h2, hk2, e]

theorem sl_len {w : World} {v : Value} {bs : List Int} (h : Sl w v bs) (wx : World) : (Builtin.len_ #[34] 3 #[v]).run Try.prog wx = .ok (.int .i64 bs.length) wx := by
  obtain ⟨ao, cap, rfl, _⟩ := h
  simp [Builtin.len_, run_underlying Try.underlying34, goInt]

theorem take_any (p : Nat) (g : Option Nat) (bs : List Int) (at' : Nat) (e f n : Int) (w : World) (h : Rd w p g bs at' e) (hn0 : -9223372036854775808 ≤ n) (hn1 : n < 9223372036854775808) :
    Calls Try.prog 68 #[.pointer (some ⟨p, 0, none⟩), .int .i64 f, .int .i64 n] w fun x w' => RdStep p g w w' bs (takeZ f n bs at' e).2.1 (takeZ f n bs at' e).2.2 ∧
      x = .returned (.tuple #[.int .u64 (takeZ f n bs at' e).1.1, .string (mkStr (takeZ f n bs at' e).1.2)]) := by
  have hh := h
  obtain ⟨v, h1, h2, h3, h4, h5, h6, h7⟩ := hh
  obtain ⟨c0, c1, c2⟩ := cell_of_three h1
  have f1 := free_of_block (o := 1) h1
  have f2 := free_of_block (o := 2) h1
  by_cases he : e = 0
  · subst he
    obtain ⟨rv, hsl, hrv, _⟩ := sl_from h3 at' h6
    have ho : Oct (bs.drop at') := fun x hx => h5 x (List.mem_of_mem_drop hx)
    have hdl : (bs.drop at').length = bs.length - at' := by simp
    obtain ⟨u, sz, e1, hr⟩ : ∃ u sz e1, leadZ f (bs.drop at') n = (u, sz, e1) := ⟨_, _, _, rfl⟩
    have hc : ∀ nq : Nat, Calls Try.prog 78 #[.int .i64 f, rv, .int .i64 n] (w.drewN nq) fun x w' => w' = w.drewN nq ∧ x = .returned (.tuple #[.int .u64 u, .int .i64 sz, .int .i64 e1]) := by
      intro nq
      have := lead_any f rv (bs.drop at') n (w.drewN nq) (hrv.drewN nq) ho (by omega)
      rw [hr] at this
      exact this
    unfold takeZ
    rw [if_pos rfl, hr]
    dsimp only
    by_cases he1 : e1 = 0
    · rw [if_pos he1]
      have hok := leadZ_ok f (bs.drop at') n ho (by rw [hr]; exact he1)
      rw [hr] at hok
      dsimp only at hok
      obtain ⟨k1, k2, k3, k4, k5⟩ := hok
      by_cases hf : f = 3
      · rw [if_pos hf]
        subst hf
        subst he1
        have k6 := k5 (by omega) (by omega)
        have hlen := fun wx => sl_len hrv wx
        by_cases hlong : max n 0 < u
        · rw [if_pos hlong]
          refine (take_text_long p v rv at' n u sz w c0 c1 c2 f2 hsl hc _ hlen k3 k6 hn0 hn1 k1 k2 (by omega) hlong).mono ?_
          rintro x w' ⟨⟨nq, rfl⟩, rfl⟩
          exact ⟨rd_set2 h nq _, rfl⟩
        · rw [if_neg hlong]
          by_cases hsh : ((bs.drop at').length : Int) - sz < u
          · rw [if_pos hsh]
            refine (take_text_short p v rv at' n u sz w c0 c1 c2 f2 hsl hc _ hlen k3 k6 hn0 hn1 k1 k2 (by omega) (by omega) hsh).mono ?_
            rintro x w' ⟨⟨nq, rfl⟩, rfl⟩
            exact ⟨rd_set2 h nq _, rfl⟩
          · rw [if_neg hsh]
            obtain ⟨su, rfl⟩ := Int.eq_ofNat_of_zero_le k1
            obtain ⟨uu, rfl⟩ := Int.eq_ofNat_of_zero_le k3
            obtain ⟨rv2, hsl2, hrv2, _⟩ := sl_part hrv su (su + uu) (by omega) (by omega)
            rw [Nat.add_sub_cancel_left] at hrv2
            refine (take_text_ok p v rv at' n uu su w c0 c1 c2 f1 hsl hc _ hlen k3 k6 hn0 hn1 k1 k2 (by omega) (by omega) (by omega) rv2 _ (by simpa using hsl2) (fun nq => sl_string (hrv2.drewN nq))).mono ?_
            rintro x w' ⟨⟨nq, rfl⟩, rfl⟩
            have e1 : ((su : Int) + (uu : Int)).toNat = su + uu := by omega
            have e2 : (at' : Int) + ((su : Int) + (uu : Int)) = ((at' + (su + uu) : Nat) : Int) := by omega
            rw [e1, e2, Int.toNat_natCast, Int.toNat_natCast]
            exact ⟨rd_set1 h nq _ (by omega), rfl⟩
      · rw [if_neg hf]
        refine (take_plain p v rv at' f n u sz e1 w c0 c1 c2 f1 hsl hc he1 hf k1 (by omega)).mono ?_
        rintro x w' ⟨⟨nq, rfl⟩, rfl⟩
        have e2 : (at' : Int) + sz = ((at' + sz.toNat : Nat) : Int) := by omega
        rw [e2]
        exact ⟨rd_set1 h nq _ (by omega), rfl⟩
    · rw [if_neg he1]
      refine (take_lead_err p v rv at' f n u sz e1 w c0 c1 c2 f2 hsl hc he1).mono ?_
      rintro x w' ⟨⟨nq, rfl⟩, rfl⟩
      exact ⟨rd_set2 h nq _, rfl⟩
  · unfold takeZ
    rw [if_neg he]
    refine (take_stopped p f n e w c2 (by simpa using he)).mono ?_
    rintro x w' ⟨rfl, rfl⟩
    exact ⟨⟨h, Kept.refl _ _⟩, rfl⟩

end Go.Proofs.Ytdnlfacfleemeaa

namespace Go.Proofs.Ytdnlfacfleemeaa
open Go.RowKit

theorem takeZ_bd (f n : Int) (bs : List Int) (at' : Nat) (e : Int) (ho : Oct bs) :
    0 ≤ (takeZ f n bs at' e).1.1 ∧ (takeZ f n bs at' e).1.1 < 18446744073709551616 ∧ (f ≠ 0 → f ≠ 2 → (takeZ f n bs at' e).1.1 < 9223372036854775808) ∧ (f = 0 → n = 1 → (takeZ f n bs at' e).1.1 < 256) := by
  have ho2 : Oct (bs.drop at') := fun x hx => ho x (List.mem_of_mem_drop hx)
  have hb : f = 0 → n = 1 → (leadZ f (bs.drop at') n).2.2 = 0 → (leadZ f (bs.drop at') n).1 < 256 := by
    intro h1 h2 h3
    subst h1; subst h2
    unfold leadZ fixZ at h3 ⊢
    rw [if_pos rfl, if_neg (by omega)] at h3 ⊢
    by_cases h4 : ((bs.drop at').length : Int) < 1
    · rw [if_pos h4] at h3; simp at h3
    · rw [if_neg h4]
      have := leZ_bd ((bs.drop at').take 1) (fun x hx => ho2 x (List.mem_of_mem_take hx))
      have hl : ((bs.drop at').take 1).length = 1 := by rw [List.length_take]; omega
      rw [hl] at this
      exact this.2
  unfold takeZ
  split
  · split
    · rename_i h1 h2
      have hk := leadZ_ok f (bs.drop at') n ho2 h2
      split
      · split
        · exact ⟨by dsimp only; omega, by dsimp only; omega, fun _ _ => by dsimp only; omega, fun _ _ => by dsimp only; omega⟩
        · split
          · exact ⟨by dsimp only; omega, by dsimp only; omega, fun _ _ => by dsimp only; omega, fun _ _ => by dsimp only; omega⟩
          · exact ⟨hk.2.2.1, hk.2.2.2.1, hk.2.2.2.2, fun a b => hb a b h2⟩
      · exact ⟨hk.2.2.1, hk.2.2.2.1, hk.2.2.2.2, fun a b => hb a b h2⟩
    · exact ⟨by dsimp only; omega, by dsimp only; omega, fun _ _ => by dsimp only; omega, fun _ _ => by dsimp only; omega⟩
  · exact ⟨by dsimp only; omega, by dsimp only; omega, fun _ _ => by dsimp only; omega, fun _ _ => by dsimp only; omega⟩

theorem Rd.oct {w : World} {p : Nat} {g : Option Nat} {bs : List Int} {at' : Nat} {e : Int} (h : Rd w p g bs at' e) : Oct bs := by
  obtain ⟨_, _, _, _, _, h, _⟩ := h; exact h

/-- 'take' with its answer named. -/
theorem take_named (p : Nat) (g : Option Nat) (bs : List Int) (at' : Nat) (e f n : Int) (w : World) (h : Rd w p g bs at' e) (hn0 : -9223372036854775808 ≤ n) (hn1 : n < 9223372036854775808) :
    ∃ u s a2 e2, u = (takeZ f n bs at' e).1.1 ∧ s = mkStr (takeZ f n bs at' e).1.2 ∧ a2 = (takeZ f n bs at' e).2.1 ∧ e2 = (takeZ f n bs at' e).2.2 ∧
    Calls Try.prog 68 #[.pointer (some ⟨p, 0, none⟩), .int .i64 f, .int .i64 n] w fun x w' => RdStep p g w w' bs a2 e2 ∧ x = .returned (.tuple #[.int .u64 u, .string s]) :=
  ⟨_, _, _, _, rfl, rfl, rfl, rfl, take_any p g bs at' e f n w h hn0 hn1⟩

set_option maxRecDepth 100000 in
set_option maxHeartbeats 800000 in
theorem rbyte_any (p : Nat) (g : Option Nat) (bs : List Int) (at' : Nat) (e : Int) (w : World) (h : Rd w p g bs at' e) :
    Calls Try.prog 69 #[.pointer (some ⟨p, 0, none⟩)] w fun x w' => RdStep p g w w' bs (takeZ 0 1 bs at' e).2.1 (takeZ 0 1 bs at' e).2.2 ∧ x = .returned (.int .u8 (takeZ 0 1 bs at' e).1.1) := by
  have hb := takeZ_bd 0 1 bs at' e h.oct
  obtain ⟨u, s, a2, e2, h1, h2, h3, h4, hc⟩ := take_named p g bs at' e 0 1 w h (by omega) (by omega)
  rw [← h1, ← h3, ← h4]
  rw [← h1] at hb
  have HC := hid hc
  obtain ⟨b0, _, _, b1⟩ := hb
  have b2 := b1 rfl rfl
  clear hc h1 h2 h3 h4 b1 h
  go_enter Try.func69, Try.ntmps69
  go_wp2_with (go_at_call 68; refine HC.out.mono ?_; rintro x w' ⟨hw1, rfl⟩; have HW := hid hw1; clear hw1)
  go_ret
  refine ⟨?_, rfl⟩
  exact Hid.out (by assumption)

set_option maxRecDepth 100000 in
set_option maxHeartbeats 800000 in
theorem rnum_any (p : Nat) (g : Option Nat) (bs : List Int) (at' : Nat) (e : Int) (w : World) (h : Rd w p g bs at' e) :
    Calls Try.prog 46 #[.pointer (some ⟨p, 0, none⟩)] w fun x w' => RdStep p g w w' bs (takeZ 1 0 bs at' e).2.1 (takeZ 1 0 bs at' e).2.2 ∧ x = .returned (.int .i64 (takeZ 1 0 bs at' e).1.1) := by
  have hb := takeZ_bd 1 0 bs at' e h.oct
  obtain ⟨u, s, a2, e2, h1, h2, h3, h4, hc⟩ := take_named p g bs at' e 1 0 w h (by omega) (by omega)
  rw [← h1, ← h3, ← h4]
  rw [← h1] at hb
  have HC := hid hc
  obtain ⟨b0, _, b1, _⟩ := hb
  have b2 := b1 (by omega) (by omega)
  clear hc h1 h2 h3 h4 b1 h
  go_enter Try.func46, Try.ntmps46
  go_wp2_with (go_at_call 68; refine HC.out.mono ?_; rintro x w' ⟨hw1, rfl⟩; have HW := hid hw1; clear hw1)
  go_ret
  refine ⟨?_, rfl⟩
  exact Hid.out (by assumption)

set_option maxRecDepth 100000 in
set_option maxHeartbeats 800000 in
theorem rint_any (p : Nat) (g : Option Nat) (bs : List Int) (at' : Nat) (e : Int) (w : World) (h : Rd w p g bs at' e) :
    Calls Try.prog 82 #[.pointer (some ⟨p, 0, none⟩)] w fun x w' => RdStep p g w w' bs (takeZ 2 0 bs at' e).2.1 (takeZ 2 0 bs at' e).2.2 ∧ x = .returned (.int .i64 (unfoldZ (takeZ 2 0 bs at' e).1.1)) := by
  have hb := takeZ_bd 2 0 bs at' e h.oct
  obtain ⟨u, s, a2, e2, h1, h2, h3, h4, hc⟩ := take_named p g bs at' e 2 0 w h (by omega) (by omega)
  rw [← h1, ← h3, ← h4]
  rw [← h1] at hb
  have HC := hid hc
  obtain ⟨b0, b1, _, _⟩ := hb
  clear hc h1 h2 h3 h4 h
  go_enter Try.func82, Try.ntmps82
  go_wp2_with (first | (go_at_call 68; refine HC.out.mono ?_; rintro x w' ⟨hw1, rfl⟩; have HW := hid hw1; clear hw1) | (go_at_call 87; refine (unfold_any u _ b0 b1).mono ?_; rintro x w2 ⟨rfl, hw2⟩; subst hw2))
  go_ret
  refine ⟨?_, rfl⟩
  exact Hid.out (by assumption)

set_option maxRecDepth 100000 in
set_option maxHeartbeats 800000 in
theorem rtext_any (p : Nat) (g : Option Nat) (bs : List Int) (at' : Nat) (e n : Int) (w : World) (h : Rd w p g bs at' e) (hn0 : -9223372036854775808 ≤ n) (hn1 : n < 9223372036854775808) :
    Calls Try.prog 71 #[.pointer (some ⟨p, 0, none⟩), .int .i64 n] w fun x w' => RdStep p g w w' bs (takeZ 3 n bs at' e).2.1 (takeZ 3 n bs at' e).2.2 ∧ x = .returned (.string (mkStr (takeZ 3 n bs at' e).1.2)) := by
  obtain ⟨u, s, a2, e2, h1, h2, h3, h4, hc⟩ := take_named p g bs at' e 3 n w h hn0 hn1
  rw [← h2, ← h3, ← h4]
  have HC := hid hc
  clear hc h1 h2 h3 h4 h
  go_enter Try.func71, Try.ntmps71
  go_wp2_with (go_at_call 68; refine HC.out.mono ?_; rintro x w' ⟨hw1, rfl⟩; have HW := hid hw1; clear hw1)
  go_ret
  refine ⟨?_, rfl⟩
  exact Hid.out (by assumption)

set_option maxRecDepth 100000 in
set_option maxHeartbeats 800000 in
theorem left_any (p : Nat) (g : Option Nat) (bs : List Int) (at' : Nat) (e : Int) (w : World) (h : Rd w p g bs at' e) :
    Calls Try.prog 53 #[.pointer (some ⟨p, 0, none⟩)] w fun x w' => (∃ nq, w' = w.drewN nq) ∧ x = .returned (.int .i64 ((bs.length : Int) - at')) := by
  obtain ⟨v, h1, h2, h3, h4, h5, h6, h7⟩ := h
  obtain ⟨c0, c1, c2⟩ := cell_of_three h1
  have hlen := fun wx => sl_len h3 wx
  clear h1 h3 h2 h4 h5
  go_enter Try.func53, Try.ntmps53
  go_wp2
  go_quiet (fail)
  go_wp2
  go_ret
  exact ⟨⟨nq, rfl⟩, rfl⟩

set_option maxRecDepth 100000 in
set_option maxHeartbeats 800000 in
theorem rerr_any (p : Nat) (g : Option Nat) (bs : List Int) (at' : Nat) (e : Int) (w : World) (h : Rd w p g bs at' e) :
    Calls Try.prog 52 #[.pointer (some ⟨p, 0, none⟩)] w fun x w' => (∃ nq, w' = w.drewN nq) ∧ x = .returned (.tuple #[.int .i64 e, .int .i64 (if e = 0 then 0 else (at' : Int))]) := by
  obtain ⟨v, h1, h2, h3, h4, h5, h6, h7⟩ := h
  obtain ⟨c0, c1, c2⟩ := cell_of_three h1
  clear h1 h3 h2 h4 h5
  by_cases he : e = 0
  · subst he
    rw [if_pos rfl]
    go_enter Try.func52, Try.ntmps52
    go_wp2
    go_ret2
    exact ⟨⟨0, rfl⟩, rfl⟩
  · rw [if_neg he]
    have he2 : (e == 0) = false := by simpa using he
    clear he
    go_enter Try.func52, Try.ntmps52
    go_wp2
    go_quiet (fail)
    go_wp2
    go_ret2
    exact ⟨⟨nq, rfl⟩, rfl⟩

theorem Rd.drewN {w : World} {p : Nat} {g : Option Nat} {bs : List Int} {at' : Nat} {e : Int} (h : Rd w p g bs at' e) (n : Nat) : Rd (w.drewN n) p g bs at' e := by
  obtain ⟨v, h1, h2, h3, h4⟩ := h
  exact ⟨v, by rw [heap_drewN]; exact h1, h2, h3.drewN n, h4⟩

theorem drewN_drewN (w : World) (n m : Nat) : (w.drewN n).drewN m = w.drewN (n + m) := by
  simp [World.drewN, Nat.add_assoc]

/-- What End answers. -/
def endZ (len : Nat) (at' : Nat) (e : Int) : Int := if e = 0 then (if at' < len then 3 else 0) else e

set_option maxRecDepth 100000 in
set_option maxHeartbeats 800000 in
theorem end_any (p : Nat) (g : Option Nat) (bs : List Int) (at' : Nat) (e : Int) (w : World) (h : Rd w p g bs at' e) :
    Calls Try.prog 37 #[.pointer (some ⟨p, 0, none⟩)] w fun x w' => (∃ nq, w' = w.drewN nq) ∧ x = .returned (.int .i64 (endZ bs.length at' e)) := by
  have hat : at' ≤ bs.length := by obtain ⟨_, _, _, _, _, _, h, _⟩ := h; exact h
  by_cases he : e = 0
  · subst he
    by_cases hl : at' < bs.length
    · have hr : endZ bs.length at' 0 = 3 := by unfold endZ; rw [if_pos rfl, if_pos hl]
      rw [hr]
      clear hr
      have HE := hid (rerr_any p g bs at' 0 w h)
      have HL := hid (fun n => left_any p g bs at' 0 _ (h.drewN n))
      clear h
      go_enter Try.func37, Try.ntmps37
      go_wp2_with fail
      refine HE.out.mono ?_
      rintro x w' ⟨⟨nq, rfl⟩, rfl⟩
      go_wp2_with fail
      refine (HL.out nq).mono ?_
      rintro x w' ⟨⟨nq2, rfl⟩, rfl⟩
      rw [drewN_drewN]
      go_wp2
      go_ret
      exact ⟨⟨_, rfl⟩, rfl⟩
    · have hr : endZ bs.length at' 0 = 0 := by unfold endZ; rw [if_pos rfl, if_neg hl]
      rw [hr]
      clear hr
      have HE := hid (rerr_any p g bs at' 0 w h)
      have HL := hid (fun n => left_any p g bs at' 0 _ (h.drewN n))
      clear h
      go_enter Try.func37, Try.ntmps37
      go_wp2_with fail
      refine HE.out.mono ?_
      rintro x w' ⟨⟨nq, rfl⟩, rfl⟩
      go_wp2_with fail
      refine (HL.out nq).mono ?_
      rintro x w' ⟨⟨nq2, rfl⟩, rfl⟩
      rw [drewN_drewN]
      go_wp2
      go_ret
      exact ⟨⟨_, rfl⟩, rfl⟩
  · have hr : endZ bs.length at' e = e := by unfold endZ; rw [if_neg he]
    rw [hr]
    clear hr
    have he2 : (e == 0) = false := by simpa using he
    have HE := hid (rerr_any p g bs at' e w h)
    clear h
    go_enter Try.func37, Try.ntmps37
    go_wp2_with fail
    refine HE.out.mono ?_
    rintro x w' ⟨⟨nq, rfl⟩, rfl⟩
    go_wp2
    go_ret
    exact ⟨⟨_, rfl⟩, rfl⟩

set_option maxRecDepth 100000 in
set_option maxHeartbeats 800000 in
theorem read_any (v : Value) (bs : List Int) (w : World) (h : Sl w v bs) (ho : Oct bs) (hl : bs.length ≤ 1000000000) :
    Calls Try.prog 33 #[v] w fun x w' => ∃ p, x = .returned (.pointer (some ⟨p, 0, none⟩)) ∧ w.heap.size < p ∧ Rd w' p (some w.heap.size) bs 0 0 ∧ Below w.heap.size w w' := by
  have HC := hid (clone_any v bs w h hl)
  go_enter Try.func33, Try.ntmps33
  go_wp2_with fail
  refine HC.out.mono ?_
  rintro x w1 ⟨rfl, hown, hb⟩
  have HO := hid hown
  have hlt : w.heap.size < w1.heap.size := (Array.getElem?_eq_some_iff.1 hown).1
  clear hown
  go_wp2
  go_ret
  refine ⟨w1.heap.size, rfl, hlt, ?_, hb.alloc (by omega) _⟩
  have hk : Kept (fun _ => False) w1 (w1.alloc (.cells #[.slice (some ⟨w.heap.size, 0, none⟩) bs.length bs.length, .int .i64 0, .int .i64 0] 109)) := (Kept.refl _ _).alloc _
  refine ⟨_, heap_alloc_new w1 _, rfl, ?_, ?_, ho, Nat.zero_le _, hl⟩
  · exact (sl_of_owns (HO.out.owns (B := 0) (Nat.zero_le _) (by unfold maxLen; omega))).kept hk (fun _ _ h => h)
  · simp; omega

end Go.Proofs.Ytdnlfacfleemeaa
