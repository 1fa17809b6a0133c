/-
  LAYER 7 (msg), THE PROGRAM: toList of entries: what a read of one leaves.
-/
import Derived.Test.YtppjojjejabaeaaMsToE
import Derived.Test.YtppjojjejabaeaaMsRdE
namespace Go.Proofs.Ytppjojjejabaeaa
open Go.RowKit
set_option linter.unusedVariables false
set_option maxRecDepth 100000

theorem dE_shorter {l r : List UInt8} {x : Me} (h : dE l = some (x, r)) : r.length ≤ l.length := by
  have := dE_sound h
  rw [this, List.length_append]
  omega
theorem bxSetE_eq (w : World) (g : Nat) (x y z : Int) (d : ByteArray) : bxSetE w g x y z d = put4 w g (.int .i64 x) (.int .i64 y) (.int .i64 z) (.string d) := rfl
/-- k of N numbers have been read, all is well. -/
structure ELs (w : World) (lb rb N k : Nat) (r0 : List UInt8) (wr : World) (r : List UInt8) (a : Option Addr) (cap : Nat) (vs : List Me) : Prop where
  ls : LsAt enTyL 132 w wr lb a cap vs
  rd : own wr rb (rdrCells (mk r) true) 95
  len : vs.length = k
  short : r.length ≤ 10000000
  eq : dEs N r0 = (dEs (N - k) r).map fun p => (vs ++ p.1, p.2)
  ne : rb ≠ lb
  ge : w.heap.size ≤ rb
  nr : (Value.slice a vs.length cap).ownBlock ≠ some rb
/-- One could not be read. -/
structure ELz (w : World) (rb N : Nat) (r0 : List UInt8) (wr : World) : Prop where
  eq : dEs N r0 = none
  rd : ∃ s, own wr rb (rdrCells s false) 95
  below : Below w.heap.size w wr
theorem ELs.later {w : World} {lb rb N k : Nat} {r0 : List UInt8} {wr wx : World} {r : List UInt8} {a : Option Addr} {cap : Nat} {vs : List Me} (h : ELs w lb rb N k r0 wr r a cap vs) (hb : Below wr.heap.size wr wx) : ELs w lb rb N k r0 wx r a cap vs :=
  { h with ls := h.ls.later hb, rd := h.rd.same (hb.block _ h.rd.lt) }
theorem ELz.later {w : World} {rb N : Nat} {r0 : List UInt8} {wr wx : World} (h : ELz w rb N r0 wr) (hb : Below wr.heap.size wr wx) : ELz w rb N r0 wx := by
  obtain ⟨s, hs⟩ := h.rd
  exact ⟨h.eq, ⟨s, hs.same (hb.block _ hs.lt)⟩, h.below.trans (hb.mono h.below.size)⟩
def takeEntV (lb : Nat) : Value := .func (.func 98) #[.pointer (some ⟨lb, 0, none⟩)] #[]
def ELI (w : World) (lb rb N k : Nat) (r0 : List UInt8) (tb : Nat) : Nat → World → Prop
  | 0, wx => k < N ∧ own wx tb #[takeEntV lb] 134 ∧ tb ≠ rb ∧ ∃ r a cap vs, ELs w lb rb N k r0 wx r a cap vs
  | _ + 1, wx => ∃ r a cap vs, ELs w lb rb N (k + 1) r0 wx r a cap vs
def ELZ (w : World) (lb rb N : Nat) (r0 : List UInt8) (tb : Nat) (wx : World) : Prop := ELz w rb N r0 wx ∧ own wx tb #[takeEntV lb] 134
theorem el_pre {w : World} {lb rb N k : Nat} {r0 : List UInt8} {tb : Nat} (hN : N ≤ 8) : RdPreE 1 tb rb (fun _ => 98) (fun _ => .pointer (some ⟨lb, 0, none⟩)) (ELI w lb rb N k r0 tb) (ELZ w lb rb N r0 tb) where
  en := fun _ _ => en_item_ent
  step := fun j wx hj hI => by
    obtain rfl : j = 0 := by omega
    obtain ⟨hkN, ho, hne, r, a, cap, vs, hs⟩ := hI
    have hbA : Below wx.heap.size wx (wx.alloc (.cells #[.int .i64 0, .int .i64 0, .int .i64 0, .string ⟨#[]⟩] 49)) := (Below.refl _ _).alloc (Nat.le_refl _) _
    have hsA := hs.later hbA
    have hoA := ho.al (.cells #[.int .i64 0, .int .i64 0, .int .i64 0, .string ⟨#[]⟩] 49)
    have hxA := own.new wx #[.int .i64 0, .int .i64 0, .int .i64 0, .string ⟨#[]⟩] 49
    have hrlt := hs.rd.lt
    have hllt := hs.ls.box.lt
    have holt := ho.lt
    refine ⟨mk r, hs.rd, (ho.cell 0).trans rfl, (toEntry_any r _ hs.short).mono ?_⟩
    rintro e w1 ⟨hb, x, y, z, d, s, rfl, h1⟩
    have hs1 := hsA.later hb
    have ho1 := hoA.same (hb.block _ hoA.lt)
    have hx1 := hxA.same (hb.block _ hxA.lt)
    have hx4 := put4_chg w1 wx.heap.size (.int .i64 x) (.int .i64 y) (.int .i64 z) (.string d)
    have hrd4 := hs1.rd.chg hx4 (by omega)
    have ho4 := ho1.chg hx4 (by omega)
    have hls4 := hs1.ls.chg hx4 (by omega) (fun b e e2 => by have := hs.ls.row.row.lt b e; omega) (fun b e => by rw [e]; have := hs.ls.row.below.size; omega)
    refine ⟨x, y, z, d, s, (dE r).isSome, rfl, ⟨hs1.rd, hx1⟩, ?_, ?_⟩
    · intro hno
      have hd : dE r = none := by
        cases h : dE r with
        | none => rfl
        | some p => rw [h] at hno; cases hno
      refine ⟨⟨?_, ⟨s, rdSet_own hrd4 s false⟩, hls4.row.below.trans ((rdSet_chg _ rb s false).below hls4.row.below.size (fun b e => by rw [e]; exact hs.ge))⟩, rdSet_other ho4 hne⟩
      have hm : N - k = (N - (k + 1)) + 1 := by omega
      rw [hs.eq, hm, dEs, hd]
      rfl
    · intro hyes
      obtain ⟨p, hd⟩ := Option.isSome_iff_exists.1 hyes
      obtain ⟨x', r'⟩ := p
      obtain ⟨e1, e2⟩ := h1 _ hd
      simp only at e1 e2
      subst e1 e2
      have hls := hls4.chg (rdSet_chg (put4 w1 wx.heap.size (.int .i64 x) (.int .i64 y) (.int .i64 z) (.string d)) rb (mk r') true) (fun e => hs.ne e.symm) (fun b e e2 => hs.nr (by rw [e, e2])) (fun b e => by rw [e]; exact hs.ge)
      refine (item_ent hls ⟨x, y, z, d⟩ (by rw [hs.len]; omega)).mono ?_
      rintro e w2 ⟨rfl, a2, cap2, hl2, hc2, hn2⟩
      have hrd := rdSet_own hrd4 (mk r') true
      refine ⟨rfl, r', a2, cap2, vs ++ [⟨x, y, z, d⟩], hl2, hrd.chg hc2 ?_, by simp [hs.len], by have := dE_shorter hd; have := hs.short; omega, ?_, hs.ne, hs.ge, ?_⟩
      · rintro (e | e)
        · exact hs.ne e
        · exact hs.nr e
      · have hm : N - k = (N - (k + 1)) + 1 := by omega
        rw [hs.eq, hm, dEs, hd]
        simp only
        cases dEs (N - (k + 1)) r' with
        | none => rfl
        | some q => simp
      · intro e
        rcases hn2 _ e with e | e
        · exact hs.nr e
        · have := hrd.lt; omega
  bad := fun j wx hj hZ => by
    obtain rfl : j = 0 := by omega
    obtain ⟨hz, ho⟩ := hZ
    obtain ⟨s, hs⟩ := hz.rd
    exact ⟨(hs.cell 1).trans rfl, (ho.cell 0).trans rfl⟩
end Go.Proofs.Ytppjojjejabaeaa
