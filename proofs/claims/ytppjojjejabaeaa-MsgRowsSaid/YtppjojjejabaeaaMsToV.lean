/-
  LAYER 7 (msg), THE PROGRAM: toList of numbers, ToVoters.
-/
import Derived.Test.YtppjojjejabaeaaMsItem
namespace Go.Proofs.Ytppjojjejabaeaa
open Go.RowKit
set_option linter.unusedVariables false
set_option maxRecDepth 100000

theorem pI_no {l : List UInt8} (h : dI l = none) (hl : l.length ≤ maxLen) (w : World) : Calls Try.prog 43 #[.string (mk l)] w fun e w' => e = .returned (.tuple #[.int .i64 0, .string ⟨#[]⟩, .bool false]) ∧ Below w.heap.size w w' := by
  have h2 := toInt_any (mk l) w (by rw [mk_size]; exact hl)
  rw [mk_data, dI_none_of_toInt.2 h] at h2
  exact h2.mono fun e w' ⟨h3, m, h4⟩ => ⟨h3, by rw [h4]; exact below_drew (Below.refl _ _) _⟩
theorem pI_yes {l r : List UInt8} {n : Int} (h : dI l = some (n, r)) (hl : l.length ≤ maxLen) (w : World) : Calls Try.prog 43 #[.string (mk l)] w fun e w' => e = .returned (.tuple #[.int .i64 n, .string (mk r), .bool true]) ∧ Below w.heap.size w w' := by
  have h2 := toInt_any (mk l) w (by rw [mk_size]; exact hl)
  unfold dI at h
  cases ht : toInt l with
  | none => rw [ht] at h; simp at h
  | some p =>
    rw [ht] at h
    simp at h
    obtain ⟨rfl, rfl⟩ := h
    rw [mk_data, ht] at h2
    exact h2.mono fun e w' ⟨h3, m, h4⟩ => ⟨h3, by rw [h4]; exact below_drew (Below.refl _ _) _⟩
/-- What ToInt leaves, in one shape. -/
theorem pI_any (l : List UInt8) (hl : l.length ≤ maxLen) (w : World) : Calls Try.prog 43 #[.string (mk l)] w fun e w' => ∃ x s b, e = .returned (.tuple #[.int .i64 x, .string s, .bool b]) ∧ Below w.heap.size w w' ∧ (b = false → dI l = none) ∧ (b = true → ∃ r, s = mk r ∧ dI l = some (x, r)) := by
  cases h : dI l with
  | none => exact (pI_no h hl w).mono fun e w' ⟨h1, h2⟩ => ⟨0, ⟨#[]⟩, false, h1, h2, by simp, by simp⟩
  | some p => exact (pI_yes h hl w).mono fun e w' ⟨h1, h2⟩ => ⟨p.1, mk p.2, true, h1, h2, by simp, fun _ => ⟨p.2, rfl, rfl⟩⟩

/-- k of N numbers have been read, all is well. -/
structure TLs (w : World) (lb rb N k : Nat) (r0 : List UInt8) (wr : World) (r : List UInt8) (a : Option Addr) (cap : Nat) (vs : List Int) : Prop where
  ls : LsAt numTyL 108 w wr lb a cap vs
  rd : own wr rb (rdrCells (mk r) true) 95
  len : vs.length = k
  short : r.length ≤ maxLen
  eq : dNs N r0 = (dNs (N - k) r).map fun p => (vs ++ p.1, p.2)
  ne : rb ≠ lb
  ge : w.heap.size ≤ rb
  nr : (Value.slice a vs.length cap).ownBlock ≠ some rb
/-- One could not be read. -/
structure TLz (w : World) (rb N : Nat) (r0 : List UInt8) (wr : World) : Prop where
  eq : dNs N r0 = none
  rd : ∃ s, own wr rb (rdrCells s false) 95
  below : Below w.heap.size w wr
theorem TLs.later {w : World} {lb rb N k : Nat} {r0 : List UInt8} {wr wx : World} {r : List UInt8} {a : Option Addr} {cap : Nat} {vs : List Int} (h : TLs w lb rb N k r0 wr r a cap vs) (hb : Below wr.heap.size wr wx) : TLs w lb rb N k r0 wx r a cap vs :=
  { h with ls := h.ls.later hb, rd := h.rd.same (hb.block _ h.rd.lt) }
theorem TLz.later {w : World} {rb N : Nat} {r0 : List UInt8} {wr wx : World} (h : TLz w rb N r0 wr) (hb : Below wr.heap.size wr wx) : TLz w rb N r0 wx := by
  obtain ⟨s, hs⟩ := h.rd
  exact ⟨h.eq, ⟨s, hs.same (hb.block _ hs.lt)⟩, h.below.trans (hb.mono h.below.size)⟩
def takeItemV (lb : Nat) : Value := .func (.func 79) #[.pointer (some ⟨lb, 0, none⟩)] #[]
def TLI (w : World) (lb rb N k : Nat) (r0 : List UInt8) (tb : Nat) : Nat → World → Prop
  | 0, wx => k < N ∧ own wx tb #[takeItemV lb] 82 ∧ tb ≠ rb ∧ ∃ r a cap vs, TLs w lb rb N k r0 wx r a cap vs
  | _ + 1, wx => ∃ r a cap vs, TLs w lb rb N (k + 1) r0 wx r a cap vs
def TLZ (w : World) (lb rb N : Nat) (r0 : List UInt8) (tb : Nat) (wx : World) : Prop := TLz w rb N r0 wx ∧ own wx tb #[takeItemV lb] 82
theorem tl_pre {w : World} {lb rb N k : Nat} {r0 : List UInt8} {tb : Nat} (hN : N ≤ 9) : RdPreI 1 tb rb (fun _ => 79) (fun _ => .pointer (some ⟨lb, 0, none⟩)) (TLI w lb rb N k r0 tb) (TLZ w lb rb N r0 tb) where
  en := fun _ _ => en_item_int
  step := fun j wx hj hI => by
    obtain rfl : j = 0 := by omega
    obtain ⟨hkN, ho, hne, r, a, cap, vs, hs⟩ := hI
    refine ⟨mk r, hs.rd, (ho.cell 0).trans rfl, (pI_any r hs.short wx).mono ?_⟩
    rintro e w1 ⟨x, s, b, rfl, hb, h0, h1⟩
    have hs1 := hs.later hb
    have ho1 := ho.same (hb.block _ ho.lt)
    refine ⟨x, s, b, rfl, hs1.rd, ?_, ?_⟩
    · rintro rfl
      refine ⟨⟨?_, ⟨s, rdSet_own hs1.rd s false⟩, hs1.ls.row.below.trans ((rdSet_chg w1 rb s false).below hs1.ls.row.below.size (fun b e => by rw [e]; exact hs.ge))⟩, rdSet_other ho1 hne⟩
      have hm : N - k = (N - (k + 1)) + 1 := by omega
      rw [hs.eq, hm, dNs, h0 rfl]
      rfl
    · rintro rfl
      obtain ⟨r', rfl, hd⟩ := h1 rfl
      have hls := hs1.ls.chg (rdSet_chg w1 rb (mk r') true) (fun e => hs.ne e.symm) (fun b e e2 => hs.nr (by rw [e, e2])) (fun b e => by rw [e]; exact hs.ge)
      refine (item_int hls x (by rw [hs.len]; omega)).mono ?_
      rintro e w2 ⟨rfl, a2, cap2, hl2, hc2, hn2⟩
      have hrd := rdSet_own hs1.rd (mk r') true
      refine ⟨rfl, r', a2, cap2, vs ++ [x], hl2, hrd.chg hc2 ?_, by simp [hs.len], by have := dI_shorter hd; have := hs.short; omega, ?_, hs.ne, hs.ge, ?_⟩
      · rintro (e | e)
        · exact hs.ne e
        · exact hs.nr e
      · have hm : N - k = (N - (k + 1)) + 1 := by omega
        rw [hs.eq, hm, dNs, hd]
        simp only
        cases dNs (N - (k + 1)) r' with
        | none => rfl
        | some q => simp
      · intro e
        rcases hn2 _ e with e | e
        · exact hs.nr e
        · have := hrd.lt; omega
  bad := fun j wx hj hZ => by
    obtain rfl : j = 0 := by omega
    obtain ⟨hz, ho⟩ := hZ
    obtain ⟨s, hs⟩ := hz.rd
    exact ⟨(hs.cell 1).trans rfl, (ho.cell 0).trans rfl⟩
end Go.Proofs.Ytppjojjejabaeaa
