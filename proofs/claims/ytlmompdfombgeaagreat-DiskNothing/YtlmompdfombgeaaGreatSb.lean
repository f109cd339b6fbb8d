import Derived.Test.YtlmompdfombgeaaGreatSa
namespace Go.Proofs.YtlmompdfombgeaaGreat
open Go.RowKit Go.MapKept

theorem zr_over {w w' : World} {d r : Nat} {off : Bool} {cs : Int} {fs : List (Int × Int)} (hr : ZR w r off cs fs) (hk : Kept (fun k => k = d) w w') (hlt : d < r) : ZR w' r off cs fs := hr.kept hk (by omega) (fun b hb e => by omega)

theorem zd_over {w w' : World} {d r : Nat} {off off' : Bool} {cs cs' : Int} {fs fs' : List (Int × Int)} (hz : ZD w d off cs fs) (hr : ZR w r off' cs' fs') (hk : Kept (fun k => k = r) w w') (hlt : d < r) : ZD w' d off cs fs := by
  obtain ⟨sv, rv, hb, -, -⟩ := hr
  exact hz.kept hk (by omega) (fun b es c hb2 e => by subst e; exact hp_ne hb hb2 (by simp) rfl)

theorem kE_ok (off : Bool) (nm : ByteArray) : (kE off nm == kE off nm) = true := by simp

theorem rsync_zz {w : World} {r : Nat} {off : Bool} {cs : Int} {fs : List (Int × Int)} (nm : ByteArray) (h : ZR w r off cs fs) (hs : nm.size ≤ maxLen) : Calls Tryz.prog 55 #[.pointer (some ⟨r, 0, none⟩), .string nm] w fun x w' => x = .returned (.int .i64 (kE off nm)) ∧ Below w.heap.size w w' := by
  obtain ⟨sv, rv, hb, -, -⟩ := h
  replace hb : RB w r sv rv cs off := hb
  exact rsync_z nm hb hs

theorem rappend_zz {w : World} {r : Nat} {off : Bool} {cs : Int} {fs : List (Int × Int)} (nm : ByteArray) (ao : Option Addr) (n c : Nat) (h : ZR w r off cs fs) (hs : nm.size ≤ maxLen) : Calls Tryz.prog 53 #[.pointer (some ⟨r, 0, none⟩), .string nm, .slice ao n c] w fun x w' => x = .returned (.int .i64 (kE off nm)) ∧ Below w.heap.size w w' := by
  obtain ⟨sv, rv, hb, -, -⟩ := h
  replace hb : RB w r sv rv cs off := hb
  exact rappend_z nm ao n c hb hs

theorem rtruncate_zz {w : World} {r : Nat} {off : Bool} {cs : Int} {fs : List (Int × Int)} (nm : ByteArray) (sz : Int) (h : ZR w r off cs fs) (hs : nm.size ≤ maxLen) : Calls Tryz.prog 54 #[.pointer (some ⟨r, 0, none⟩), .string nm, .int .i64 sz] w fun x w' => x = .returned (.int .i64 (kE off nm)) ∧ Below w.heap.size w w' := by
  obtain ⟨sv, rv, hb, -, -⟩ := h
  replace hb : RB w r sv rv cs off := hb
  exact rtruncate_z nm sz hb hs

theorem rremove_zz {w : World} {r : Nat} {off : Bool} {cs : Int} {fs : List (Int × Int)} (nm : ByteArray) (h : ZR w r off cs fs) (hs : nm.size ≤ maxLen) : Calls Tryz.prog 58 #[.pointer (some ⟨r, 0, none⟩), .string nm] w fun x w' => x = .returned (.int .i64 (kE off nm)) ∧ Below w.heap.size w w' := by
  obtain ⟨sv, rv, hb, -, -⟩ := h
  replace hb : RB w r sv rv cs off := hb
  exact rremove_z nm hb hs

theorem rrename_zz {w : World} {r : Nat} {off : Bool} {cs : Int} {fs : List (Int × Int)} (nm mn : ByteArray) (h : ZR w r off cs fs) (hs : nm.size ≤ maxLen) (hs1 : mn.size ≤ maxLen) : Calls Tryz.prog 57 #[.pointer (some ⟨r, 0, none⟩), .string nm, .string mn] w fun x w' => x = .returned (.int .i64 (rnE off nm mn)) ∧ Below w.heap.size w w' := by
  obtain ⟨sv, rv, hb, -, -⟩ := h
  replace hb : RB w r sv rv cs off := hb
  exact rrename_z nm mn hb hs hs1

theorem rread_zz {w : World} {r : Nat} {off : Bool} {cs : Int} {fs : List (Int × Int)} (nm : ByteArray) (h : ZR w r off cs fs) (hs : nm.size ≤ maxLen) : Calls Tryz.prog 59 #[.pointer (some ⟨r, 0, none⟩), .string nm] w fun x w' => x = .returned (.tuple #[.slice none 0 0, .int .i64 (kE off nm)]) ∧ Below w.heap.size w w' := by
  obtain ⟨sv, rv, hb, -, -⟩ := h
  replace hb : RB w r sv rv cs off := hb
  exact rread_z nm hb hs

end Go.Proofs.YtlmompdfombgeaaGreat
