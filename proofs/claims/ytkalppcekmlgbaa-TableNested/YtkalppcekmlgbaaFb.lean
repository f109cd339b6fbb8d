import Derived.Test.YtkalppcekmlgbaaFa
import Derived.Test.YtkalppcekmlgbaaRb29
namespace Go.Proofs.Ytkalppcekmlgbaa
open Go.RowKit

/-- The boxes of follows. -/
structure Fx (w : World) (S : Nat) (o : Option Addr) (b : Nat) (frm to : ByteArray) (stop : Int) (body : Value) (ok over : Bool) (n : Int) (ls : ByteArray) : Prop where
  bt : w.heap[S]? = some (.cells #[.pointer o] 23 (0, 0))
  bb : w.heap[S + 1]? = some (.cells #[.pointer (some ⟨b, 0, none⟩)] 29 (0, 0))
  bf : Bx w (S + 2) frm
  be : Bx w (S + 3) to
  bs : w.heap[S + 4]? = some (.cells #[.int .i64 stop] 3 (0, 0))
  bd : w.heap[S + 5]? = some (.cells #[body] 22 (0, 0))
  bo : w.heap[S + 6]? = some (.cells #[.bool ok] 4 (0, 0))
  bv : w.heap[S + 7]? = some (.cells #[.bool over] 4 (0, 0))
  bn : w.heap[S + 8]? = some (.cells #[.int .i64 n] 3 (0, 0))
  bl : Bx w (S + 9) ls

theorem Fx.kept {w w' : World} {S : Nat} {o : Option Addr} {b : Nat} {frm to : ByteArray} {stop : Int} {body : Value} {ok over : Bool} {n : Int} {ls : ByteArray} {Q : Nat → Prop} (h : Fx w S o b frm to stop body ok over n ls) (hk : Kept Q w w') (hq : ∀ j, S ≤ j → j ≤ S + 9 → ¬ Q j) : Fx w' S o b frm to stop body ok over n ls :=
  ⟨hp_kept h.bt hk (hq _ (by omega) (by omega)), hp_kept h.bb hk (hq _ (by omega) (by omega)), hp_kept h.bf hk (hq _ (by omega) (by omega)), hp_kept h.be hk (hq _ (by omega) (by omega)), hp_kept h.bs hk (hq _ (by omega) (by omega)), hp_kept h.bd hk (hq _ (by omega) (by omega)), hp_kept h.bo hk (hq _ (by omega) (by omega)), hp_kept h.bv hk (hq _ (by omega) (by omega)), hp_kept h.bn hk (hq _ (by omega) (by omega)), hp_kept h.bl hk (hq _ (by omega) (by omega))⟩

/-- What the blocks are. -/
theorem St.ty {B : Nat} {w : World} {o : Option Addr} {t : Tr} {b : Nat} {vl : Value} {l : List Pr} (h : St B w o t b vl l) {k : Nat} (hk : ft o t b vl k) : ∃ cs ty, w.heap[k]? = some (.cells cs ty (0, 0)) ∧ (ty = 27 ∨ ty = 61 ∨ ty = 32 ∨ ty = 64) := by
  rcases hk with hk | hk | hk | hk
  · rcases h.to with ⟨h2, _⟩ | ⟨p, h2, h3⟩
    · rw [hk] at h2; cases h2
    · rw [hk] at h2; injection h2 with h2; injection h2 with h2; subst h2; exact ⟨_, _, h3.blk, by simp⟩
  · obtain ⟨key, v, hm⟩ := bs_mem hk
    obtain ⟨p, q, hh, e⟩ := h.to.at_.mem k key v hm
    exact ⟨_, _, e, by simp⟩
  · subst hk; exact ⟨_, _, h.bk.blk, by simp⟩
  · obtain ⟨cs, e⟩ := owns_block h.bk.own k hk
    exact ⟨_, _, e, by simp⟩
theorem St.notft {B : Nat} {w : World} {o : Option Addr} {t : Tr} {b : Nat} {vl : Value} {l : List Pr} (h : St B w o t b vl l) {k : Nat} {cs : Array Value} {ty : TypeId} {fr : Nat × Nat} (hb : w.heap[k]? = some (.cells cs ty fr)) (hn : ty ≠ 27 ∧ ty ≠ 61 ∧ ty ≠ 32 ∧ ty ≠ 64) : ¬ ft o t b vl k := by
  intro hk
  obtain ⟨cs', ty', e, ht⟩ := h.ty hk
  rw [hb] at e
  injection e with e
  injection e with e1 e2
  subst e2
  rcases ht with ht | ht | ht | ht
  · exact hn.1 ht
  · exact hn.2.1 ht
  · exact hn.2.2.1 ht
  · exact hn.2.2.2 ht
theorem Fx.notft {w : World} {S : Nat} {o : Option Addr} {b : Nat} {frm to : ByteArray} {stop : Int} {body : Value} {ok over : Bool} {n : Int} {ls : ByteArray} {B : Nat} {o' : Option Addr} {t : Tr} {b' : Nat} {vl : Value} {l : List Pr} (h : Fx w S o b frm to stop body ok over n ls) (hs : St B w o' t b' vl l) : ∀ j, S ≤ j → j ≤ S + 9 → ¬ ft o' t b' vl j := by
  intro j h1 h2
  have : j = S ∨ j = S + 1 ∨ j = S + 2 ∨ j = S + 3 ∨ j = S + 4 ∨ j = S + 5 ∨ j = S + 6 ∨ j = S + 7 ∨ j = S + 8 ∨ j = S + 9 := by omega
  rcases this with rfl | rfl | rfl | rfl | rfl | rfl | rfl | rfl | rfl | rfl
  · exact hs.notft h.bt (by decide)
  · exact hs.notft h.bb (by decide)
  · exact hs.notft h.bf (by decide)
  · exact hs.notft h.be (by decide)
  · exact hs.notft h.bs (by decide)
  · exact hs.notft h.bd (by decide)
  · exact hs.notft h.bo (by decide)
  · exact hs.notft h.bv (by decide)
  · exact hs.notft h.bn (by decide)
  · exact hs.notft h.bl (by decide)

theorem Sx.len (x : Sx) : x.cells.length = 5 := rfl

/-- What the body of the loop leaves. -/
def FolP (B : Nat) (w : World) (S : Nat) (o : Option Addr) (t : Tr) (b : Nat) (vl : Value) (l : List Pr) (frm to : ByteArray) (stop : Int) (body : Value) (len n : Nat) (k : ByteArray) : Ending → World → Prop := fun e w' =>
  ∃ t' vl' l', e = .returned (.bool (!((n : Int) + 1 == stop))) ∧ Fx w' S o b frm to stop body true ((n : Int) + 1 == stop) ((n : Int) + 1) k ∧ St B w' o t' b vl' l' ∧ Kept (fun j => (S + 6 ≤ j ∧ j ≤ S + 9) ∨ ft o t b vl j) w w' ∧ (∀ j, ft o t' b vl' j → ft o t b vl j ∨ w.heap.size ≤ j) ∧ (∀ p : ByteArray → Bool, l'.countP (fun e => p e.1) ≤ l.countP (fun e => p e.1) + (if n < len ∧ n < 300 then 1 else 0)) ∧ (¬ (n < len ∧ n < 300) → t' = t ∧ vl' = vl ∧ l' = l ∧ Kept (fun j => S + 6 ≤ j ∧ j ≤ S + 9) w w')

/-- The end of the body: the world w1 in which the step has been done. -/
theorem fol_end {B : Nat} {w w1 : World} {S : Nat} {o : Option Addr} {t t' : Tr} {b : Nat} {vl vl' : Value} {l l' : List Pr} {frm to : ByteArray} {stop : Int} {body : Value} {len n : Nat} {k : ByteArray} (hx : Fx w1 S o b frm to stop body true false n k) (hs : St B w1 o t' b vl' l') (kp : Kept (fun j => (S + 6 ≤ j ∧ j ≤ S + 9) ∨ ft o t b vl j) w w1)
    (nw : ∀ j, ft o t' b vl' j → ft o t b vl j ∨ w.heap.size ≤ j) (cn : ∀ p : ByteArray → Bool, l'.countP (fun e => p e.1) ≤ l.countP (fun e => p e.1) + (if n < len ∧ n < 300 then 1 else 0)) (hno : ¬ (n < len ∧ n < 300) → t' = t ∧ vl' = vl ∧ l' = l ∧ Kept (fun j => S + 6 ≤ j ∧ j ≤ S + 9) w w1) (v : Bool) (hv : v = ((n : Int) + 1 == stop)) :
    FolP B w S o t b vl l frm to stop body len n k (.returned (.bool (!v))) ((w1.setCell ⟨S + 8, 0, none⟩ (.int .i64 ((n : Int) + 1))).setCell ⟨S + 7, 0, none⟩ (.bool v)) := by
  subst hv
  have K : Kept (fun j => j = S + 8 ∨ j = S + 7) w1 ((w1.setCell ⟨S + 8, 0, none⟩ (.int .i64 ((n : Int) + 1))).setCell ⟨S + 7, 0, none⟩ (.bool ((n : Int) + 1 == stop))) :=
    ((Kept.refl (fun j => j = S + 8 ∨ j = S + 7) w1).setCell (p := ⟨S + 8, 0, none⟩) (fun _ => .inl rfl) _).setCell (p := ⟨S + 7, 0, none⟩) (fun _ => .inr rfl) _
  refine ⟨t', vl', l', rfl, ⟨hp_kept hx.bt K (by omega), hp_kept hx.bb K (by omega), hp_kept hx.bf K (by omega), hp_kept hx.be K (by omega), hp_kept hx.bs K (by omega), hp_kept hx.bd K (by omega), hp_kept hx.bo K (by omega), ?_, ?_, hp_kept hx.bl K (by omega)⟩, hs.kept K ?_, kp.trans K (fun j _ e => .inl (by omega)), nw, cn, fun h => ⟨(hno h).1, (hno h).2.1, (hno h).2.2.1, (hno h).2.2.2.trans K (fun j _ e => by omega)⟩⟩
  · exact set_block (i := 0) (hp_set hx.bv (by simp) _) _
  · exact hp_set (set_block (i := 0) hx.bn _) (by simp) _
  · intro j hj e
    exact hx.notft hs j (by omega) (by omega) hj

theorem folC {B : Nat} {w W1 w2 W3 : World} {S : Nat} {o : Option Addr} {t t' : Tr} {b : Nat} {vl vl' : Value} {l l' : List Pr} {frm to : ByteArray} {stop : Int} {body : Value} {n : Nat} {k : ByteArray} (hW : W3 = w2.setCell ⟨S + 6, 0, none⟩ (.bool true)) (_x1 : Fx W1 S o b frm to stop body true false n k) (_s1 : St B W1 o t b vl l) (kp : Kept (fun j => (S + 6 ≤ j ∧ j ≤ S + 9) ∨ ft o t b vl j) w W1)
    (x2 : Fx w2 S o b frm to stop body true false n k) (hsp : Sp B W1.drew w2 o t b vl l t' vl' l') (len : Nat) (hn : n < len ∧ n < 300) :
    Fx W3 S o b frm to stop body true false n k ∧ St B W3 o t' b vl' l' ∧ Kept (fun j => (S + 6 ≤ j ∧ j ≤ S + 9) ∨ ft o t b vl j) w W3 ∧ (∀ j, ft o t' b vl' j → ft o t b vl j ∨ w.heap.size ≤ j) ∧ (∀ p : ByteArray → Bool, l'.countP (fun e => p e.1) ≤ l.countP (fun e => p e.1) + (if n < len ∧ n < 300 then 1 else 0)) := by
  subst hW
  have K : Kept (fun j => j = S + 6) w2 (w2.setCell ⟨S + 6, 0, none⟩ (.bool true)) := (Kept.refl (fun j => j = S + 6) w2).setCell (p := ⟨S + 6, 0, none⟩) (fun _ => rfl) _
  refine ⟨⟨hp_kept x2.bt K (by omega), hp_kept x2.bb K (by omega), hp_kept x2.bf K (by omega), hp_kept x2.be K (by omega), hp_kept x2.bs K (by omega), hp_kept x2.bd K (by omega), set_block (i := 0) x2.bo _, hp_kept x2.bv K (by omega), hp_kept x2.bn K (by omega), hp_kept x2.bl K (by omega)⟩, hsp.st.kept K (fun j hj e => x2.notft hsp.st j (by omega) (by omega) hj), (kp.trans hsp.kp.undrew (fun j _ e => .inr e)).trans K (fun j _ e => .inl (by omega)), ?_, ?_⟩
  · intro j hj
    rcases hsp.nw j hj with h | h
    · exact .inl h
    · have : W1.drew.heap.size = W1.heap.size := rfl
      exact .inr (Nat.le_trans kp.size (this ▸ h))
  · intro q
    rw [if_pos hn]
    exact hsp.cn q

set_option maxRecDepth 100000 in
set_option maxHeartbeats 8000000 in
theorem fol1 (B : Nat) (w : World) (S p : Nat) (t : Tr) (b : Nat) (vl : Value) (l : List Pr) (frm to : ByteArray) (stop : Int) (body : Value) (xs : List Sx) (n : Nat) (ls k : ByteArray) (v : Int)
    (hx : Fx w S (some ⟨p, 0, none⟩) b frm to stop body true false n ls) (hs : St B w (some ⟨p, 0, none⟩) t b vl l) (hl : l.length ≤ 500000)
    (hq : (if 0 < n then bnextV ls l else bleastV frm l) = .tuple #[.string k, .bool true]) (hg : bgetV k l = .tuple #[.int .i64 v, .bool true]) (hto : to = ⟨#[]⟩ ∨ kl to k = false) (hn : n ≤ 100000)
    (hr : Rf w 5 body xs.length (xs.flatMap Sx.cells)) (hbd : xs ≠ [] → ∀ j, body.ownBlock = some j → j < B) (hBS : B ≤ S) (hxs : ∀ x ∈ xs, x.key.size ≤ 281474976710656) :
    Calls Try.prog 29 #[.string k, .int .i64 v, .pointer (some ⟨S + 1, 0, none⟩), .pointer (some ⟨S + 2, 0, none⟩), .pointer (some ⟨S + 8, 0, none⟩), .pointer (some ⟨S + 9, 0, none⟩), .pointer (some ⟨S + 7, 0, none⟩), .pointer (some ⟨S + 3, 0, none⟩), .pointer (some ⟨S + 6, 0, none⟩), .pointer (some ⟨S + 5, 0, none⟩), .pointer (some ⟨S, 0, none⟩), .pointer (some ⟨S + 4, 0, none⟩)] w
      (FolP B w S (some ⟨p, 0, none⟩) t b vl l frm to stop body xs.length n k) := by
  obtain ⟨a1, q1, e1⟩ := bleastV_form frm l
  have L1 := hid (show Calls Try.prog 16 #[.pointer (some ⟨b, 0, none⟩), .string frm] w fun x w' => x = .returned (.tuple #[.string a1, .bool q1]) ∧ w' = w from e1 ▸ bleast_any B b vl l frm w hs.bk (by omega))
  have X1 := hid (show 0 < n → Calls Try.prog 17 #[.pointer (some ⟨b, 0, none⟩), .string ls] w fun x w' => x = .returned (.tuple #[.string k, .bool true]) ∧ w' = w from fun h0 => by
    rw [if_pos h0] at hq
    exact hq ▸ bnext_any B b vl l ls w hs.bk (by omega))
  have E0 := hid (show ¬ 0 < n → a1 = k ∧ q1 = true from fun h0 => by
    rw [if_neg h0, e1] at hq
    simpa using hq)
  have G1 := hid (show Calls Try.prog 18 #[.pointer (some ⟨b, 0, none⟩), .string k] w fun x w' => x = .returned (.tuple #[.int .i64 v, .bool true]) ∧ w' = w from hg ▸ bget_any B b vl l k w hs.bk (by omega))
  have hgt : to = ⟨#[]⟩ ∨ (!Op.bytesLess k.toList to.toList && !(k.toList == to.toList)) = false := by
    rcases hto with h | h
    · exact .inl h
    · exact .inr (by rw [gtr_eq]; exact h)
  -- behind 'last = key'
  obtain ⟨W1, hW1⟩ : ∃ W1, W1 = w.setCell ⟨S + 9, 0, none⟩ (.string k) := ⟨_, rfl⟩
  have K1 : Kept (fun j => j = S + 9) w W1 := by rw [hW1]; exact (Kept.refl (fun j => j = S + 9) w).setCell (p := ⟨S + 9, 0, none⟩) (fun _ => rfl) _
  have x1 : Fx W1 S (some ⟨p, 0, none⟩) b frm to stop body true false n k := ⟨hp_kept hx.bt K1 (by omega), hp_kept hx.bb K1 (by omega), hp_kept hx.bf K1 (by omega), hp_kept hx.be K1 (by omega), hp_kept hx.bs K1 (by omega), hp_kept hx.bd K1 (by omega), hp_kept hx.bo K1 (by omega), hp_kept hx.bv K1 (by omega), hp_kept hx.bn K1 (by omega), by rw [hW1]; exact set_block (i := 0) hx.bl _⟩
  have s1 : St B W1 (some ⟨p, 0, none⟩) t b vl l := hs.kept K1 (fun j hj e => hx.notft hs j (by omega) (by omega) hj)
  have r1 : Rf W1 5 body xs.length (xs.flatMap Sx.cells) := hr.keptE K1 (fun hc j hj e => by have := hbd (flat_ne hc) j hj; omega)
  have kp1 : Kept (fun j => (S + 6 ≤ j ∧ j ≤ S + 9) ∨ ft (some ⟨p, 0, none⟩) t b vl j) w W1 := K1.mono (fun j _ e => .inl (by omega))
  obtain ⟨ao, cap, hbody, hcap, -⟩ := hr.shape
  have FE := hid (show ∀ vv, vv = ((n : Int) + 1 == stop) → FolP B w S (some ⟨p, 0, none⟩) t b vl l frm to stop body xs.length n k (.returned (.bool (!vv))) ((W1.setCell ⟨S + 8, 0, none⟩ (.int .i64 ((n : Int) + 1))).setCell ⟨S + 7, 0, none⟩ (.bool vv)) from fun vv hv => fol_end x1 s1 kp1 (fun j hj => .inl hj) (fun _ => Nat.le_add_right _ _) (fun _ => ⟨rfl, rfl, rfl, K1.mono (fun j _ e => by omega)⟩) vv hv)
  have y0 := cells1 hx.bb
  have y1 := cells1 hx.bf
  have y2 := cells1 hx.bn
  have y3 := cells1 hx.bl
  have y4 := cells1 hx.bv
  have y5 := cells1 hx.be
  have y6 := cells1 hx.bo
  have y7 := cells1 hx.bd
  have y8 := cells1 hx.bt
  have y9 := cells1 hx.bs
  rw [hbody] at y7
  have g9 : ∀ j, w.frozen? ⟨S + 9, j, none⟩ = false := fun j => free_of_block hx.bl
  have z1 := cells1 x1.bb
  have z2 := cells1 x1.bn
  have z4 := cells1 x1.bv
  have z6 := cells1 x1.bo
  have z7 := cells1 x1.bd
  have z8 := cells1 x1.bt
  have z9 := cells1 x1.bs
  rw [hbody] at z7
  have h8 : ∀ j, W1.frozen? ⟨S + 8, j, none⟩ = false := fun j => free_of_block x1.bn
  have h7 : ∀ j, W1.frozen? ⟨S + 7, j, none⟩ = false := fun j => free_of_block x1.bv
  have h6 : ∀ j, W1.frozen? ⟨S + 6, j, none⟩ = false := fun j => free_of_block x1.bo
  have HW := hid hW1
  have hne : (k.toList == k.toList) = true := by simp
  have hnw : IntKind.i64.wrap ((n : Int) + 1) = (n : Int) + 1 := by rw [IntKind.wrap_i64]; omega
  generalize hP : FolP B w S (some ⟨p, 0, none⟩) t b vl l frm to stop body xs.length n k = PP at FE ⊢
  have HP := hid hP
  have HZ := hid (And.intro x1 (And.intro s1 (And.intro r1 kp1)))
  clear hP hx hs hq hg hto hr x1 s1 r1 kp1 K1 hW1 e1
  by_cases hb1 : n < xs.length
  · by_cases hb2 : n < 300
    · obtain ⟨gb, off, cap', hbody2, -, -, hcell⟩ := HZ.out.2.2.1.lits (by omega) (by omega)
      obtain ⟨x, hxe⟩ : ∃ x, xs[n] = x := ⟨_, rfl⟩
      have hxk : x.key.size ≤ 281474976710656 := hxs x (by rw [← hxe]; exact List.getElem_mem hb1)
      have hxn : xs ≠ [] := by intro e; rw [e] at hb1; simp at hb1
      have hgb : gb < B := hbd hxn gb (by rw [hbody2]; rfl)
      have hfl : ∀ c u, c < 5 → x.cells[c]? = some u → (xs.flatMap Sx.cells)[n * 5 + c]? = some u := fun c u hc hu => by
        rw [flat_get Sx.cells 5 Sx.len xs n c hc, List.getElem?_eq_getElem hb1, hxe]
        exact hu
      rw [hbody2] at hbody
      injection hbody with hb3 hb4 hb5
      subst hb3 hb5
      have ONE := hid (one_any B p t b vl l x W1.drew (HZ.out.2.1.below (Below.refl _ _).drew) hxk hl)
      have AF := hid (show ∀ w2 t' vl' l', Sp B W1.drew w2 (some ⟨p, 0, none⟩) t b vl l t' vl' l' → Hid (Fx w2 S (some ⟨p, 0, none⟩) b frm to stop body true false n k) ∧ w2.cell? ⟨S, 0, none⟩ = some (.pointer (some ⟨p, 0, none⟩)) ∧ w2.cell? ⟨S + 1, 0, none⟩ = some (.pointer (some ⟨b, 0, none⟩)) ∧ w2.cell? ⟨S + 5, 0, none⟩ = some (.slice (some ⟨gb, off, none⟩) xs.length cap') ∧ w2.cell? ⟨S + 8, 0, none⟩ = some (.int .i64 n) ∧ w2.cell? ⟨gb, off + n * 5, none⟩ = some (.int .i64 x.kind) ∧ w2.cell? ⟨gb, off + n * 5 + 1, none⟩ = some (.string x.key) ∧ w2.cell? ⟨gb, off + n * 5 + 2, none⟩ = some (.string x.to) ∧ w2.cell? ⟨gb, off + n * 5 + 3, none⟩ = some (.int .i64 x.v) ∧ w2.cell? ⟨gb, off + n * 5 + 4, none⟩ = some (.int .i64 x.stop) from by
        intro w2 t' vl' l' hsp
        obtain ⟨x1, s1, r1, -⟩ := HZ.out
        have x2 := x1.kept hsp.kp.undrew (x1.notft s1)
        have r2 := r1.kept hsp.kp.undrew (fun j hj e => by have := hbd hxn j hj; have := (s1.lt j e).1; omega)
        have hc2 : ∀ j u, (xs.flatMap Sx.cells)[j]? = some u → w2.cell? ⟨gb, off + j, none⟩ = some u := by
          obtain ⟨g', off', cap2, e', -, -, hc⟩ := r2.lits (by omega) (by omega)
          rw [hbody2] at e'
          injection e' with e3
          injection e3 with e3
          injection e3 with e4 e5
          subst e4 e5
          exact hc
        have c5 := cells1 x2.bd
        rw [hbody2] at c5
        exact ⟨hid x2, cells1 x2.bt, cells1 x2.bb, c5, cells1 x2.bn, hc2 _ _ (hfl 0 _ (by omega) rfl), hc2 _ _ (hfl 1 _ (by omega) rfl), hc2 _ _ (hfl 2 _ (by omega) rfl), hc2 _ _ (hfl 3 _ (by omega) rfl), hc2 _ _ (hfl 4 _ (by omega) rfl)⟩)
      have v0 := hcell _ _ (hfl 0 _ (by omega) rfl)
      have v1 := hcell _ _ (hfl 1 _ (by omega) rfl)
      have v2 := hcell _ _ (hfl 2 _ (by omega) rfl)
      have v3 := hcell _ _ (hfl 3 _ (by omega) rfl)
      have v4 := hcell _ _ (hfl 4 _ (by omega) rfl)
      simp only [Nat.add_zero, ← Nat.add_assoc] at v0 v1 v2 v3 v4
      have hg6 : S + 6 ≠ gb := by omega
      have hlt3 := And.intro hb1 hb2
      have HB2 := hid hbody2
      clear hcell hfl hxe hxk hgb hbody2 hb4 hxs hbd hxn
      by_cases h0 : 0 < n
      · have X2 := hid (X1.out h0)
        have h0' : (0 : Int) < n := by omega
        by_cases hte : to = ⟨#[]⟩
        · have b0 := emp_eq hte
          clear hte hgt E0 X1
          go_enter Try.func29, Try.ntmps29
          go_upto_region 10 with (first
            | (go_at_call 16; refine L1.out.mono ?_; rintro e w1 ⟨rfl, e1⟩; rw [e1]; clear e1 w1)
            | (go_at_call 17; refine X2.out.mono ?_; rintro e w1 ⟨rfl, e1⟩; rw [e1]; clear e1 w1)
            | (go_at_call 18; refine G1.out.mono ?_; rintro e w1 ⟨rfl, e1⟩; rw [e1]; clear e1 w1))
          rw [← HW.out]
          go_wp2_with fail
          go_region_held3 (fun w' => w'.cell? ⟨S, 0, none⟩ = some (.pointer (some ⟨p, 0, none⟩)) ∧ w'.cell? ⟨S + 1, 0, none⟩ = some (.pointer (some ⟨b, 0, none⟩)) ∧ w'.cell? ⟨S + 5, 0, none⟩ = some (.slice (some ⟨gb, off, none⟩) xs.length cap') ∧ w'.cell? ⟨S + 8, 0, none⟩ = some (.int .i64 n) ∧ w'.cell? ⟨gb, off + n * 5, none⟩ = some (.int .i64 x.kind) ∧ w'.cell? ⟨gb, off + n * 5 + 1, none⟩ = some (.string x.key) ∧ w'.cell? ⟨gb, off + n * 5 + 2, none⟩ = some (.string x.to) ∧ w'.cell? ⟨gb, off + n * 5 + 3, none⟩ = some (.int .i64 x.v) ∧ w'.cell? ⟨gb, off + n * 5 + 4, none⟩ = some (.int .i64 x.stop)) (go_keep) (first
            | (go_at_call 20
               refine ONE.out.mono ?_
               rintro e w2 ⟨rfl, t', vl', l', hsp⟩
               obtain ⟨x2, k0, k1, k2, k3, k4, k5, k6, k7, k8⟩ := AF.out w2 t' vl' l' hsp
               have u6 := cells1 x2.out.bo
               have f6 : ∀ j, w2.frozen? ⟨S + 6, j, none⟩ = false := fun j => free_of_block x2.out.bo
               have N2 := hid hsp
               clear hsp))
          obtain ⟨W3, hW3⟩ : ∃ W3, W3 = (w2.setCell ⟨S + 6, 0, none⟩ (.bool true)) := ⟨_, rfl⟩
          have Z3 := hid (folC hW3 HZ.out.1 HZ.out.2.1 HZ.out.2.2.2 x2.out N2.out xs.length hlt3)
          clear k0 k1 k2 k3 k4 k5 k6 k7 k8 u6 f6
          first
            | (rw [← hW3])
            | (show _)
          have HW3 := hid hW3
          clear hW3
          have m2 := cells1 Z3.out.1.bn
          have m4 := cells1 Z3.out.1.bv
          have m6 := cells1 Z3.out.1.bo
          have m9 := cells1 Z3.out.1.bs
          have p8 : ∀ j, W3.frozen? ⟨S + 8, j, none⟩ = false := fun j => free_of_block Z3.out.1.bn
          have p7 : ∀ j, W3.frozen? ⟨S + 7, j, none⟩ = false := fun j => free_of_block Z3.out.1.bv
          have FE3 := hid (show ∀ vv, vv = ((n : Int) + 1 == stop) → PP (.returned (.bool (!vv))) ((W3.setCell ⟨S + 8, 0, none⟩ (.int .i64 ((n : Int) + 1))).setCell ⟨S + 7, 0, none⟩ (.bool vv)) from fun vv hv => HP.out ▸ fol_end Z3.out.1 Z3.out.2.1 Z3.out.2.2.1 Z3.out.2.2.2.1 Z3.out.2.2.2.2 (fun hc => absurd hlt3 hc) vv hv)
          go_wp2
          exact FE3.out _ rfl
        · have b0 := emp_ne hte
          have b1 := hgt.resolve_left hte
          clear hte hgt E0 X1
          go_enter Try.func29, Try.ntmps29
          go_upto_region 10 with (first
            | (go_at_call 16; refine L1.out.mono ?_; rintro e w1 ⟨rfl, e1⟩; rw [e1]; clear e1 w1)
            | (go_at_call 17; refine X2.out.mono ?_; rintro e w1 ⟨rfl, e1⟩; rw [e1]; clear e1 w1)
            | (go_at_call 18; refine G1.out.mono ?_; rintro e w1 ⟨rfl, e1⟩; rw [e1]; clear e1 w1))
          rw [← HW.out]
          go_wp2_with fail
          go_region_held3 (fun w' => w'.cell? ⟨S, 0, none⟩ = some (.pointer (some ⟨p, 0, none⟩)) ∧ w'.cell? ⟨S + 1, 0, none⟩ = some (.pointer (some ⟨b, 0, none⟩)) ∧ w'.cell? ⟨S + 5, 0, none⟩ = some (.slice (some ⟨gb, off, none⟩) xs.length cap') ∧ w'.cell? ⟨S + 8, 0, none⟩ = some (.int .i64 n) ∧ w'.cell? ⟨gb, off + n * 5, none⟩ = some (.int .i64 x.kind) ∧ w'.cell? ⟨gb, off + n * 5 + 1, none⟩ = some (.string x.key) ∧ w'.cell? ⟨gb, off + n * 5 + 2, none⟩ = some (.string x.to) ∧ w'.cell? ⟨gb, off + n * 5 + 3, none⟩ = some (.int .i64 x.v) ∧ w'.cell? ⟨gb, off + n * 5 + 4, none⟩ = some (.int .i64 x.stop)) (go_keep) (first
            | (go_at_call 20
               refine ONE.out.mono ?_
               rintro e w2 ⟨rfl, t', vl', l', hsp⟩
               obtain ⟨x2, k0, k1, k2, k3, k4, k5, k6, k7, k8⟩ := AF.out w2 t' vl' l' hsp
               have u6 := cells1 x2.out.bo
               have f6 : ∀ j, w2.frozen? ⟨S + 6, j, none⟩ = false := fun j => free_of_block x2.out.bo
               have N2 := hid hsp
               clear hsp))
          obtain ⟨W3, hW3⟩ : ∃ W3, W3 = (w2.setCell ⟨S + 6, 0, none⟩ (.bool true)) := ⟨_, rfl⟩
          have Z3 := hid (folC hW3 HZ.out.1 HZ.out.2.1 HZ.out.2.2.2 x2.out N2.out xs.length hlt3)
          clear k0 k1 k2 k3 k4 k5 k6 k7 k8 u6 f6
          first
            | (rw [← hW3])
            | (show _)
          have HW3 := hid hW3
          clear hW3
          have m2 := cells1 Z3.out.1.bn
          have m4 := cells1 Z3.out.1.bv
          have m6 := cells1 Z3.out.1.bo
          have m9 := cells1 Z3.out.1.bs
          have p8 : ∀ j, W3.frozen? ⟨S + 8, j, none⟩ = false := fun j => free_of_block Z3.out.1.bn
          have p7 : ∀ j, W3.frozen? ⟨S + 7, j, none⟩ = false := fun j => free_of_block Z3.out.1.bv
          have FE3 := hid (show ∀ vv, vv = ((n : Int) + 1 == stop) → PP (.returned (.bool (!vv))) ((W3.setCell ⟨S + 8, 0, none⟩ (.int .i64 ((n : Int) + 1))).setCell ⟨S + 7, 0, none⟩ (.bool vv)) from fun vv hv => HP.out ▸ fol_end Z3.out.1 Z3.out.2.1 Z3.out.2.2.1 Z3.out.2.2.2.1 Z3.out.2.2.2.2 (fun hc => absurd hlt3 hc) vv hv)
          go_wp2
          exact FE3.out _ rfl
      · obtain ⟨rfl, rfl⟩ := E0.out h0
        have h0' : ¬ (0 : Int) < n := by omega
        by_cases hte : to = ⟨#[]⟩
        · have b0 := emp_eq hte
          clear hte hgt E0 X1
          go_enter Try.func29, Try.ntmps29
          go_upto_region 10 with (first
            | (go_at_call 16; refine L1.out.mono ?_; rintro e w1 ⟨rfl, e1⟩; rw [e1]; clear e1 w1)
            | (go_at_call 18; refine G1.out.mono ?_; rintro e w1 ⟨rfl, e1⟩; rw [e1]; clear e1 w1))
          rw [← HW.out]
          go_wp2_with fail
          go_region_held3 (fun w' => w'.cell? ⟨S, 0, none⟩ = some (.pointer (some ⟨p, 0, none⟩)) ∧ w'.cell? ⟨S + 1, 0, none⟩ = some (.pointer (some ⟨b, 0, none⟩)) ∧ w'.cell? ⟨S + 5, 0, none⟩ = some (.slice (some ⟨gb, off, none⟩) xs.length cap') ∧ w'.cell? ⟨S + 8, 0, none⟩ = some (.int .i64 n) ∧ w'.cell? ⟨gb, off + n * 5, none⟩ = some (.int .i64 x.kind) ∧ w'.cell? ⟨gb, off + n * 5 + 1, none⟩ = some (.string x.key) ∧ w'.cell? ⟨gb, off + n * 5 + 2, none⟩ = some (.string x.to) ∧ w'.cell? ⟨gb, off + n * 5 + 3, none⟩ = some (.int .i64 x.v) ∧ w'.cell? ⟨gb, off + n * 5 + 4, none⟩ = some (.int .i64 x.stop)) (go_keep) (first
            | (go_at_call 20
               refine ONE.out.mono ?_
               rintro e w2 ⟨rfl, t', vl', l', hsp⟩
               obtain ⟨x2, k0, k1, k2, k3, k4, k5, k6, k7, k8⟩ := AF.out w2 t' vl' l' hsp
               have u6 := cells1 x2.out.bo
               have f6 : ∀ j, w2.frozen? ⟨S + 6, j, none⟩ = false := fun j => free_of_block x2.out.bo
               have N2 := hid hsp
               clear hsp))
          obtain ⟨W3, hW3⟩ : ∃ W3, W3 = (w2.setCell ⟨S + 6, 0, none⟩ (.bool true)) := ⟨_, rfl⟩
          have Z3 := hid (folC hW3 HZ.out.1 HZ.out.2.1 HZ.out.2.2.2 x2.out N2.out xs.length hlt3)
          clear k0 k1 k2 k3 k4 k5 k6 k7 k8 u6 f6
          first
            | (rw [← hW3])
            | (show _)
          have HW3 := hid hW3
          clear hW3
          have m2 := cells1 Z3.out.1.bn
          have m4 := cells1 Z3.out.1.bv
          have m6 := cells1 Z3.out.1.bo
          have m9 := cells1 Z3.out.1.bs
          have p8 : ∀ j, W3.frozen? ⟨S + 8, j, none⟩ = false := fun j => free_of_block Z3.out.1.bn
          have p7 : ∀ j, W3.frozen? ⟨S + 7, j, none⟩ = false := fun j => free_of_block Z3.out.1.bv
          have FE3 := hid (show ∀ vv, vv = ((n : Int) + 1 == stop) → PP (.returned (.bool (!vv))) ((W3.setCell ⟨S + 8, 0, none⟩ (.int .i64 ((n : Int) + 1))).setCell ⟨S + 7, 0, none⟩ (.bool vv)) from fun vv hv => HP.out ▸ fol_end Z3.out.1 Z3.out.2.1 Z3.out.2.2.1 Z3.out.2.2.2.1 Z3.out.2.2.2.2 (fun hc => absurd hlt3 hc) vv hv)
          go_wp2
          exact FE3.out _ rfl
        · have b0 := emp_ne hte
          have b1 := hgt.resolve_left hte
          clear hte hgt E0 X1
          go_enter Try.func29, Try.ntmps29
          go_upto_region 10 with (first
            | (go_at_call 16; refine L1.out.mono ?_; rintro e w1 ⟨rfl, e1⟩; rw [e1]; clear e1 w1)
            | (go_at_call 18; refine G1.out.mono ?_; rintro e w1 ⟨rfl, e1⟩; rw [e1]; clear e1 w1))
          rw [← HW.out]
          go_wp2_with fail
          go_region_held3 (fun w' => w'.cell? ⟨S, 0, none⟩ = some (.pointer (some ⟨p, 0, none⟩)) ∧ w'.cell? ⟨S + 1, 0, none⟩ = some (.pointer (some ⟨b, 0, none⟩)) ∧ w'.cell? ⟨S + 5, 0, none⟩ = some (.slice (some ⟨gb, off, none⟩) xs.length cap') ∧ w'.cell? ⟨S + 8, 0, none⟩ = some (.int .i64 n) ∧ w'.cell? ⟨gb, off + n * 5, none⟩ = some (.int .i64 x.kind) ∧ w'.cell? ⟨gb, off + n * 5 + 1, none⟩ = some (.string x.key) ∧ w'.cell? ⟨gb, off + n * 5 + 2, none⟩ = some (.string x.to) ∧ w'.cell? ⟨gb, off + n * 5 + 3, none⟩ = some (.int .i64 x.v) ∧ w'.cell? ⟨gb, off + n * 5 + 4, none⟩ = some (.int .i64 x.stop)) (go_keep) (first
            | (go_at_call 20
               refine ONE.out.mono ?_
               rintro e w2 ⟨rfl, t', vl', l', hsp⟩
               obtain ⟨x2, k0, k1, k2, k3, k4, k5, k6, k7, k8⟩ := AF.out w2 t' vl' l' hsp
               have u6 := cells1 x2.out.bo
               have f6 : ∀ j, w2.frozen? ⟨S + 6, j, none⟩ = false := fun j => free_of_block x2.out.bo
               have N2 := hid hsp
               clear hsp))
          obtain ⟨W3, hW3⟩ : ∃ W3, W3 = (w2.setCell ⟨S + 6, 0, none⟩ (.bool true)) := ⟨_, rfl⟩
          have Z3 := hid (folC hW3 HZ.out.1 HZ.out.2.1 HZ.out.2.2.2 x2.out N2.out xs.length hlt3)
          clear k0 k1 k2 k3 k4 k5 k6 k7 k8 u6 f6
          first
            | (rw [← hW3])
            | (show _)
          have HW3 := hid hW3
          clear hW3
          have m2 := cells1 Z3.out.1.bn
          have m4 := cells1 Z3.out.1.bv
          have m6 := cells1 Z3.out.1.bo
          have m9 := cells1 Z3.out.1.bs
          have p8 : ∀ j, W3.frozen? ⟨S + 8, j, none⟩ = false := fun j => free_of_block Z3.out.1.bn
          have p7 : ∀ j, W3.frozen? ⟨S + 7, j, none⟩ = false := fun j => free_of_block Z3.out.1.bv
          have FE3 := hid (show ∀ vv, vv = ((n : Int) + 1 == stop) → PP (.returned (.bool (!vv))) ((W3.setCell ⟨S + 8, 0, none⟩ (.int .i64 ((n : Int) + 1))).setCell ⟨S + 7, 0, none⟩ (.bool vv)) from fun vv hv => HP.out ▸ fol_end Z3.out.1 Z3.out.2.1 Z3.out.2.2.1 Z3.out.2.2.2.1 Z3.out.2.2.2.2 (fun hc => absurd hlt3 hc) vv hv)
          go_wp2
          exact FE3.out _ rfl

    · skip
      by_cases h0 : 0 < n
      · have X2 := hid (X1.out h0)
        have h0' : (0 : Int) < n := by omega
        by_cases hte : to = ⟨#[]⟩
        · have b0 := emp_eq hte
          clear hte hgt E0 X1
          go_enter Try.func29, Try.ntmps29
          go_upto_region 10 with (first
            | (go_at_call 16; refine L1.out.mono ?_; rintro e w1 ⟨rfl, e1⟩; rw [e1]; clear e1 w1)
            | (go_at_call 17; refine X2.out.mono ?_; rintro e w1 ⟨rfl, e1⟩; rw [e1]; clear e1 w1)
            | (go_at_call 18; refine G1.out.mono ?_; rintro e w1 ⟨rfl, e1⟩; rw [e1]; clear e1 w1))
          rw [← HW.out]
          go_wp2
          all_goals exact FE.out _ rfl
        · have b0 := emp_ne hte
          have b1 := hgt.resolve_left hte
          clear hte hgt E0 X1
          go_enter Try.func29, Try.ntmps29
          go_upto_region 10 with (first
            | (go_at_call 16; refine L1.out.mono ?_; rintro e w1 ⟨rfl, e1⟩; rw [e1]; clear e1 w1)
            | (go_at_call 17; refine X2.out.mono ?_; rintro e w1 ⟨rfl, e1⟩; rw [e1]; clear e1 w1)
            | (go_at_call 18; refine G1.out.mono ?_; rintro e w1 ⟨rfl, e1⟩; rw [e1]; clear e1 w1))
          rw [← HW.out]
          go_wp2
          all_goals exact FE.out _ rfl
      · obtain ⟨rfl, rfl⟩ := E0.out h0
        have h0' : ¬ (0 : Int) < n := by omega
        by_cases hte : to = ⟨#[]⟩
        · have b0 := emp_eq hte
          clear hte hgt E0 X1
          exfalso; omega
        · have b0 := emp_ne hte
          have b1 := hgt.resolve_left hte
          clear hte hgt E0 X1
          exfalso; omega

  · skip
    by_cases h0 : 0 < n
    · have X2 := hid (X1.out h0)
      have h0' : (0 : Int) < n := by omega
      by_cases hte : to = ⟨#[]⟩
      · have b0 := emp_eq hte
        clear hte hgt E0 X1
        go_enter Try.func29, Try.ntmps29
        go_upto_region 10 with (first
          | (go_at_call 16; refine L1.out.mono ?_; rintro e w1 ⟨rfl, e1⟩; rw [e1]; clear e1 w1)
          | (go_at_call 17; refine X2.out.mono ?_; rintro e w1 ⟨rfl, e1⟩; rw [e1]; clear e1 w1)
          | (go_at_call 18; refine G1.out.mono ?_; rintro e w1 ⟨rfl, e1⟩; rw [e1]; clear e1 w1))
        rw [← HW.out]
        go_wp2
        all_goals exact FE.out _ rfl
      · have b0 := emp_ne hte
        have b1 := hgt.resolve_left hte
        clear hte hgt E0 X1
        go_enter Try.func29, Try.ntmps29
        go_upto_region 10 with (first
          | (go_at_call 16; refine L1.out.mono ?_; rintro e w1 ⟨rfl, e1⟩; rw [e1]; clear e1 w1)
          | (go_at_call 17; refine X2.out.mono ?_; rintro e w1 ⟨rfl, e1⟩; rw [e1]; clear e1 w1)
          | (go_at_call 18; refine G1.out.mono ?_; rintro e w1 ⟨rfl, e1⟩; rw [e1]; clear e1 w1))
        rw [← HW.out]
        go_wp2
        all_goals exact FE.out _ rfl
    · obtain ⟨rfl, rfl⟩ := E0.out h0
      have h0' : ¬ (0 : Int) < n := by omega
      by_cases hte : to = ⟨#[]⟩
      · have b0 := emp_eq hte
        clear hte hgt E0 X1
        go_enter Try.func29, Try.ntmps29
        go_upto_region 10 with (first
          | (go_at_call 16; refine L1.out.mono ?_; rintro e w1 ⟨rfl, e1⟩; rw [e1]; clear e1 w1)
          | (go_at_call 18; refine G1.out.mono ?_; rintro e w1 ⟨rfl, e1⟩; rw [e1]; clear e1 w1))
        rw [← HW.out]
        go_wp2
        all_goals exact FE.out _ rfl
      · have b0 := emp_ne hte
        have b1 := hgt.resolve_left hte
        clear hte hgt E0 X1
        go_enter Try.func29, Try.ntmps29
        go_upto_region 10 with (first
          | (go_at_call 16; refine L1.out.mono ?_; rintro e w1 ⟨rfl, e1⟩; rw [e1]; clear e1 w1)
          | (go_at_call 18; refine G1.out.mono ?_; rintro e w1 ⟨rfl, e1⟩; rw [e1]; clear e1 w1))
        rw [← HW.out]
        go_wp2
        all_goals exact FE.out _ rfl


end Go.Proofs.Ytkalppcekmlgbaa
