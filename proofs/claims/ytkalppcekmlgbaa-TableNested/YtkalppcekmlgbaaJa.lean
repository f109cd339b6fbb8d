import Derived.Test.YtkalppcekmlgbaaHa
import Derived.Test.YtkalppcekmlgbaaRb15
namespace Go.Proofs.Ytkalppcekmlgbaa
open Go.RowKit

/-- The boxes of TableNested. -/
structure Nx (w : World) (S T R p b : Nat) (frm to : ByteArray) (body : Value) (g1 g2 g3 : Nat) (n : Int) (ls : ByteArray) : Prop where
  bf : Bx w S frm
  be : Bx w (S + 1) to
  bd : w.heap[S + 2]? = some (.cells #[body] 22 (0, 0))
  bt : w.heap[T]? = some (.cells #[.pointer (some ⟨p, 0, none⟩)] 23 (0, 0))
  bb : w.heap[T + 2]? = some (.cells #[.pointer (some ⟨b, 0, none⟩)] 29 (0, 0))
  bi : w.heap[R]? = some (.cells #[itV g1 g2 g3] 36 (0, 0))
  bo : w.heap[R + 1]? = some (.cells #[.bool true] 4 (0, 0))
  bn : w.heap[R + 2]? = some (.cells #[.int .i64 n] 3 (0, 0))
  bl : Bx w (R + 3) ls

theorem Nx.kept {w w' : World} {S T R p b : Nat} {frm to : ByteArray} {body : Value} {g1 g2 g3 : Nat} {n : Int} {ls : ByteArray} {Q : Nat → Prop} (h : Nx w S T R p b frm to body g1 g2 g3 n ls) (hk : Kept Q w w') (h1 : ∀ j, S ≤ j → j ≤ S + 2 → ¬ Q j) (h3 : ¬ Q T) (h4 : ¬ Q (T + 2)) (h2 : ∀ j, R ≤ j → j ≤ R + 3 → ¬ Q j) : Nx w' S T R p b frm to body g1 g2 g3 n ls :=
  ⟨hp_kept h.bf hk (h1 _ (by omega) (by omega)), hp_kept h.be hk (h1 _ (by omega) (by omega)), hp_kept h.bd hk (h1 _ (by omega) (by omega)), hp_kept h.bt hk h3, hp_kept h.bb hk h4, hp_kept h.bi hk (h2 _ (by omega) (by omega)), hp_kept h.bo hk (h2 _ (by omega) (by omega)), hp_kept h.bn hk (h2 _ (by omega) (by omega)), hp_kept h.bl hk (h2 _ (by omega) (by omega))⟩

theorem Nx.sq {B : Nat} {w w' : World} {S T R p b : Nat} {frm to : ByteArray} {body : Value} {g1 g2 g3 : Nat} {n : Int} {ls : ByteArray} {o : Option Addr} {t : Tr} {b' : Nat} {vl : Value} {l : List Pr} (h : Nx w S T R p b frm to body g1 g2 g3 n ls) (hs : St B w o t b' vl l) (hk : Kept (ft o t b' vl) w w') : Nx w' S T R p b frm to body g1 g2 g3 n ls :=
  ⟨hp_kept h.bf hk (hs.notft h.bf (by decide)), hp_kept h.be hk (hs.notft h.be (by decide)), hp_kept h.bd hk (hs.notft h.bd (by decide)), hp_kept h.bt hk (hs.notft h.bt (by decide)), hp_kept h.bb hk (hs.notft h.bb (by decide)), hp_kept h.bi hk (hs.notft h.bi (by decide)), hp_kept h.bo hk (hs.notft h.bo (by decide)), hp_kept h.bn hk (hs.notft h.bn (by decide)), hp_kept h.bl hk (hs.notft h.bl (by decide))⟩


/-- Sq over more than the table's blocks: the boxes R + 1 to R + 3 too. -/
structure SqN (B : Nat) (w w' : World) (R p : Nat) (t : Tr) (b : Nat) (vl : Value) (l : List Pr) (t' : Tr) (vl' : Value) (l' : List Pr) (d : Nat) : Prop where
  st : St B w' (some ⟨p, 0, none⟩) t' b vl' l'
  kp : Kept (fun j => (R + 1 ≤ j ∧ j ≤ R + 3) ∨ ft (some ⟨p, 0, none⟩) t b vl j) w w'
  nw : ∀ k, ft (some ⟨p, 0, none⟩) t' b vl' k → ft (some ⟨p, 0, none⟩) t b vl k ∨ w.heap.size ≤ k
  ln : l'.length ≤ l.length + d

def NesQ (B : Nat) (w : World) (S T R p : Nat) (t : Tr) (b : Nat) (vl : Value) (l : List Pr) (frm to : ByteArray) (body : Value) (g1 g2 g3 n : Nat) (k : ByteArray) : Ending → World → Prop := fun e w' =>
  e = .returned (.bool true) ∧ ∃ t' vl' l', Nx w' S T R p b frm to body g1 g2 g3 ((n : Int) + 1) k ∧ SqN B w w' R p t b vl l t' vl' l' (if n < 8 then 1 else 0) ∧ (8 ≤ n → t' = t ∧ l' = l)

/-- Behind 'last = key'. -/
theorem nes_a {B : Nat} {w : World} {S T R p : Nat} {t : Tr} {b : Nat} {vl : Value} {l : List Pr} {frm to : ByteArray} {body : Value} {g1 g2 g3 : Nat} {n : Int} {ls : ByteArray} (h : Nx w S T R p b frm to body g1 g2 g3 n ls) (hs : St B w (some ⟨p, 0, none⟩) t b vl l) (hR : S + 2 < T ∧ T + 2 < R) (k : ByteArray) :
    Nx (w.setCell ⟨R + 3, 0, none⟩ (.string k)) S T R p b frm to body g1 g2 g3 n k ∧ St B (w.setCell ⟨R + 3, 0, none⟩ (.string k)) (some ⟨p, 0, none⟩) t b vl l ∧ Kept (fun j => j = R + 3) w (w.setCell ⟨R + 3, 0, none⟩ (.string k)) := by
  have K : Kept (fun j => j = R + 3) w (w.setCell ⟨R + 3, 0, none⟩ (.string k)) := (Kept.refl (fun j => j = R + 3) w).setCell (p := ⟨R + 3, 0, none⟩) (fun _ => rfl) _
  exact ⟨⟨hp_kept h.bf K (by omega), hp_kept h.be K (by omega), hp_kept h.bd K (by omega), hp_kept h.bt K (by omega), hp_kept h.bb K (by omega), hp_kept h.bi K (by omega), hp_kept h.bo K (by omega), hp_kept h.bn K (by omega), set_block (i := 0) h.bl _⟩, hs.kept K (fun j hj e => hs.notft h.bl (by decide) (e ▸ hj)), K⟩

/-- The end. -/
theorem nes_end {B : Nat} {w W1 w3 : World} {S T R p : Nat} {t t' : Tr} {b : Nat} {vl vl' : Value} {l l' : List Pr} {frm to : ByteArray} {body : Value} {g1 g2 g3 n : Nat} {k : ByteArray} (hR : S + 2 < T ∧ T + 2 < R) (x3 : Nx w3 S T R p b frm to body g1 g2 g3 n k) (K1 : Kept (fun j => j = R + 3) w W1) (hs : Sq B W1 w3 (some ⟨p, 0, none⟩) t b vl l t' vl' l' (if n < 8 then 1 else 0)) (h8 : 8 ≤ n → t' = t ∧ l' = l) :
    NesQ B w S T R p t b vl l frm to body g1 g2 g3 n k (.returned (.bool true)) ((w3.setCell ⟨R + 1, 0, none⟩ (.bool true)).setCell ⟨R + 2, 0, none⟩ (.int .i64 ((n : Int) + 1))) := by
  have K : Kept (fun j => j = R + 1 ∨ j = R + 2) w3 ((w3.setCell ⟨R + 1, 0, none⟩ (.bool true)).setCell ⟨R + 2, 0, none⟩ (.int .i64 ((n : Int) + 1))) :=
    ((Kept.refl (fun j => j = R + 1 ∨ j = R + 2) w3).setCell (p := ⟨R + 1, 0, none⟩) (fun _ => .inl rfl) _).setCell (p := ⟨R + 2, 0, none⟩) (fun _ => .inr rfl) _
  refine ⟨rfl, t', vl', l', ⟨hp_kept x3.bf K (by omega), hp_kept x3.be K (by omega), hp_kept x3.bd K (by omega), hp_kept x3.bt K (by omega), hp_kept x3.bb K (by omega), hp_kept x3.bi K (by omega), ?_, ?_, hp_kept x3.bl K (by omega)⟩, ⟨hs.st.kept K ?_, ((K1.mono (fun j _ e => .inl (by omega))).trans hs.kp (fun j _ e => .inr e)).trans K (fun j _ e => .inl (by omega)), fun j hj => ?_, hs.ln⟩, h8⟩
  · exact hp_set (set_block (i := 0) x3.bo _) (by simp) _
  · exact set_block (i := 0) (hp_set x3.bn (by simp) _) _
  · rintro j hj (rfl | rfl)
    · exact hs.st.notft x3.bo (by decide) hj
    · exact hs.st.notft x3.bn (by decide) hj
  · rcases hs.nw j hj with h | h
    · exact .inl h
    · exact .inr (Nat.le_trans K1.size h)

/-- The end, where nothing was done. -/
theorem nes_end0 {B : Nat} {w W1 : World} {S T R p : Nat} {t : Tr} {b : Nat} {vl : Value} {l : List Pr} {frm to : ByteArray} {body : Value} {g1 g2 g3 n : Nat} {k : ByteArray} (hR : S + 2 < T ∧ T + 2 < R) (x3 : Nx W1 S T R p b frm to body g1 g2 g3 n k) (K1 : Kept (fun j => j = R + 3) w W1) (hs : St B W1 (some ⟨p, 0, none⟩) t b vl l) (_h8 : 8 ≤ n) :
    NesQ B w S T R p t b vl l frm to body g1 g2 g3 n k (.returned (.bool true)) (W1.setCell ⟨R + 2, 0, none⟩ (.int .i64 ((n : Int) + 1))) := by
  have K : Kept (fun j => j = R + 2) W1 (W1.setCell ⟨R + 2, 0, none⟩ (.int .i64 ((n : Int) + 1))) := (Kept.refl (fun j => j = R + 2) W1).setCell (p := ⟨R + 2, 0, none⟩) (fun _ => rfl) _
  refine ⟨rfl, t, vl, l, ⟨hp_kept x3.bf K (by omega), hp_kept x3.be K (by omega), hp_kept x3.bd K (by omega), hp_kept x3.bt K (by omega), hp_kept x3.bb K (by omega), hp_kept x3.bi K (by omega), hp_kept x3.bo K (by omega), set_block (i := 0) x3.bn _, hp_kept x3.bl K (by omega)⟩, ⟨hs.kept K ?_, (K1.mono (fun j _ e => .inl (by omega))).trans K (fun j _ e => .inl (by omega)), fun j hj => .inl hj, Nat.le_add_right _ _⟩, fun _ => ⟨rfl, rfl⟩⟩
  rintro j hj rfl
  exact hs.notft x3.bn (by decide) hj

end Go.Proofs.Ytkalppcekmlgbaa
