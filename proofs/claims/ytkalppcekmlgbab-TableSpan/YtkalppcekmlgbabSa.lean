import Derived.Test.YtkalppcekmlgbabVsKt
import Derived.Test.YtkalppcekmlgbabVsOa
import Derived.Test.YtkalppcekmlgbabKn
import Derived.Test.YtkalppcekmlgbabRf
namespace Go.Proofs.Ytkalppcekmlgbab.Vs
open Go.RowKit

/-- Is a key between the ends? -/
def inR (frm to k : ByteArray) : Bool := !kl k frm && (decide (to = ⟨#[]⟩) || !kl to k)
abbrev exB : ByteArray := ⟨#[33]⟩
/-- How many keys are. -/
def cnt (frm to : ByteArray) (l : List En) : Nat := l.countP (fun e => inR frm to e.2.1)

/-- The keys that are put. -/
structure Ks (frm to : ByteArray) (j c : Nat) (t : Tr) : Prop where
  at_ : ∀ e ∈ t.toL, e.2.2 = .string (e.2.1 ++ exB) ∧ e.2.1.size ≤ 281474976710656
  ln : t.toL.length ≤ j
  cn : cnt frm to t.toL = c

theorem Ks.nil (frm to : ByteArray) : Ks frm to 0 0 .nil := ⟨fun e he => (by cases he), Nat.le_refl _, rfl⟩

theorem Ks.put {frm to : ByteArray} {j c : Nat} {w w' : World} {p : Nat} {t t' : Tr} {key : ByteArray} (h : Ks frm to j c t) (ht : Tb w p t) (hp : PutP w w' p t t' key (.string (key ++ exB))) (hk : key.size ≤ 281474976710656) :
    Ks frm to (j + 1) (if ent key t.toL = none ∧ inR frm to key = true then c + 1 else c) t' := by
  obtain ⟨h1, h2⟩ := put_mem ht hp
  refine ⟨fun e he => ?_, by have := h.ln; omega, ?_⟩
  · rcases h1 e he with ⟨e1, e2⟩ | ⟨e0, hm, e1, e2⟩
    · exact ⟨by rw [e2, e1], by rw [e1]; exact hk⟩
    · have := h.at_ e0 hm
      rw [e1, e2] at this
      exact this
  · rcases hp.ls with ⟨c0, hc, hl⟩ | ⟨hc, m, hl⟩
    · rw [if_neg (by rw [hc]; simp), ← h.cn, hl]
      unfold cnt
      rw [List.countP_map]
      congr 1
      funext x
      simp only [Function.comp]
      split <;> rfl
    · rw [← h.cn, hl]
      unfold cnt
      rw [(ins_perm (m, key, Value.string (key ++ exB)) t.toL).countP_eq, List.countP_cons]
      by_cases hin : inR frm to key = true
      · simp [hc, hin]
      · simp [hin]

theorem Ks.short {frm to : ByteArray} {j c : Nat} {t : Tr} (h : Ks frm to j c t) : Short t := fun e he => (h.at_ e he).2

/-- Where the first key that is not below stands. -/
def i0 (frm : ByteArray) (l : List En) : Nat := (l.takeWhile (fun e => kl e.2.1 frm)).length
theorem i0_le (frm : ByteArray) (l : List En) : i0 frm l ≤ l.length := List.Sublist.length_le (List.takeWhile_sublist _)

theorem geq_at (frm : ByteArray) : ∀ l : List En, geqE frm l = l[i0 frm l]?
  | [] => rfl
  | c :: l => by
    unfold geqE i0
    rw [List.find?_cons, List.takeWhile_cons]
    cases h : kl c.2.1 frm
    · simp
    · have := geq_at frm l
      unfold geqE i0 at this
      simp only [Bool.not_true]
      rw [this]
      simp

/-- All ahead of it are below. -/
theorem i0_low (frm : ByteArray) : ∀ l : List En, ∀ e ∈ l.take (i0 frm l), kl e.2.1 frm = true
  | [], e, he => by cases he
  | c :: l, e, he => by
    unfold i0 at he
    rw [List.takeWhile_cons] at he
    cases h : kl c.2.1 frm
    · rw [h] at he
      simp at he
    · rw [h] at he
      simp only [if_true, List.length_cons, List.take_succ_cons, List.mem_cons] at he
      rcases he with rfl | he
      · exact h
      · exact i0_low frm l e he

/-- All that is gone through. -/
theorem cnt_fin {frm to : ByteArray} {l : List En} {n : Nat} (hr : Rises l) (hn : i0 frm l + n ≤ l.length) (hin : ∀ j, j < n → ∀ e, l[i0 frm l + j]? = some e → inR frm to e.2.1 = true) (hend : ∀ e, l[i0 frm l + n]? = some e → to ≠ ⟨#[]⟩ ∧ kl to e.2.1 = true) : cnt frm to l = n := by
  have e : l = l.take (i0 frm l) ++ ((l.drop (i0 frm l)).take n ++ l.drop (i0 frm l + n)) := by
    rw [← List.drop_drop, List.take_append_drop, List.take_append_drop]
  have c1 : cnt frm to (l.take (i0 frm l)) = 0 := by
    unfold cnt
    rw [List.countP_eq_zero]
    intro x hx
    simp [inR, i0_low frm l x hx]
  have c2 : cnt frm to ((l.drop (i0 frm l)).take n) = n := by
    have hlen : ((l.drop (i0 frm l)).take n).length = n := by simp; omega
    have : cnt frm to ((l.drop (i0 frm l)).take n) = ((l.drop (i0 frm l)).take n).length := by
      unfold cnt
      rw [List.countP_eq_length]
      intro x hx
      obtain ⟨j, hj, rfl⟩ := List.getElem_of_mem hx
      rw [hlen] at hj
      refine hin j hj _ ?_
      rw [List.getElem_take, List.getElem_drop, List.getElem?_eq_getElem (by omega)]
    rw [this, hlen]
  have c3 : cnt frm to (l.drop (i0 frm l + n)) = 0 := by
    unfold cnt
    rw [List.countP_eq_zero]
    intro x hx
    obtain ⟨j, hj, rfl⟩ := List.getElem_of_mem hx
    rw [List.length_drop] at hj
    rw [List.getElem_drop]
    have hb : i0 frm l + n < l.length := by omega
    obtain ⟨h1, h2⟩ := hend _ (List.getElem?_eq_getElem hb)
    have h3 : kl to l[i0 frm l + n + j].2.1 = true := by
      rcases Nat.eq_zero_or_pos j with h0 | h0
      · subst h0; exact h2
      · exact kl_trans h2 (List.pairwise_iff_getElem.1 hr _ _ hb (by omega) (by omega))
    simp [inR, h1, h3]
  have : cnt frm to l = cnt frm to (l.take (i0 frm l)) + (cnt frm to ((l.drop (i0 frm l)).take n) + cnt frm to (l.drop (i0 frm l + n))) := by
    unfold cnt
    rw [← List.countP_append, ← List.countP_append, ← e]
  rw [this, c1, c2, c3]
  omega

end Go.Proofs.Ytkalppcekmlgbab.Vs
