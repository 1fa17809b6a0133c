/-
  MsRdI, MsSet, MsItem, MsToV, MsToW, in one text.
-/
import Derived.Test.YtiffdhihhggkhaaMq3
import Derived.Deep.RegionHeld3
import Derived.Test.YtiffdhihhggkhaaMq1
import Derived.Deep.RegionHeldLaw
import Derived.BigQuiet
/-
  LAYER 7 (msg), THE PROGRAM: read of numbers.
-/
namespace Go.Proofs.Ytiffdhihhggkhaa
open Go.RowKit
set_option linter.unusedVariables false
set_option maxRecDepth 100000

/-- The reader's block behind a decoder. -/
def rdSet (w : World) (rb : Nat) (s : ByteArray) (b : Bool) : World := (w.setCell ⟨rb, 0, none⟩ (.string s)).setCell ⟨rb, 1, none⟩ (.bool b)
def rdrCells (s : ByteArray) (b : Bool) : Array Value := #[.string s, .bool b]
theorem rdSet_own {w : World} {rb : Nat} {s : ByteArray} {b : Bool} (h : own w rb (rdrCells s b) 108) (s' : ByteArray) (b' : Bool) : own (rdSet w rb s' b') rb (rdrCells s' b') 108 := (h.set 0 _).set 1 _
theorem rdSet_other {w : World} {rb : Nat} {s' : ByteArray} {b' : Bool} {x : Nat} {cs : Array Value} {T : TypeId} (h : own w x cs T) (hx : x ≠ rb) : own (rdSet w rb s' b') x cs T := (h.other (p := ⟨rb, 0, none⟩) hx _).other (p := ⟨rb, 1, none⟩) hx _
theorem rdSet_chg (w : World) (rb : Nat) (s' : ByteArray) (b' : Bool) : Chg (fun x => x = rb) w (rdSet w rb s' b') := ((Chg.setCell w ⟨rb, 0, none⟩ _).mono (fun x hx => hx)).trans ((Chg.setCell _ ⟨rb, 1, none⟩ _).mono (fun x hx => hx)) (fun x hx => .inl hx)
theorem rdSet_size (w : World) (rb : Nat) (s' : ByteArray) (b' : Bool) : (rdSet w rb s' b').heap.size = w.heap.size := by unfold rdSet; rw [setCell_size, setCell_size]
def takerV (G : Nat → FuncId) (pt : Nat → Value) (k : Nat) : Value := .func (.func (G k)) #[pt k] #[]
/-- What a read of int asks: I k: k takers were done and all is well; Z: something could not be read. -/
structure RdPreI (n tb rb : Nat) (G : Nat → FuncId) (pt : Nat → Value) (I : Nat → World → Prop) (Z : World → Prop) : Prop where
  en : ∀ k, k < n → Enters (G k)
  step : ∀ k wx, k < n → I k wx → ∃ s, own wx rb (rdrCells s true) 108 ∧ wx.cell? ⟨tb, k, none⟩ = some (takerV G pt k) ∧
    Calls Try.prog 70 #[.string s] wx (fun e w1 => ∃ x s' b, e = .returned (.tuple #[.int .i64 x, .string s', .bool b]) ∧ own w1 rb (rdrCells s true) 108 ∧ (b = false → Z (rdSet w1 rb s' false)) ∧
      (b = true → Calls Try.prog (G k) #[pt k, .int .i64 x] (rdSet w1 rb s' true) (fun e w2 => e = .returned (.tuple #[]) ∧ I (k + 1) w2)))
  bad : ∀ k wx, k < n → Z wx → wx.cell? ⟨rb, 1, none⟩ = some (.bool false) ∧ wx.cell? ⟨tb, k, none⟩ = some (takerV G pt k)
def RdIRel (n : Nat) (I : Nat → World → Prop) (Z : World → Prop) (u : Value) (wr : World) : Prop := ∃ k : Nat, k ≤ n ∧ u = .int .i64 (k : Int) ∧ Hid (I k wr ∨ Z wr)
set_option maxHeartbeats 8000000 in
theorem readI_any {n tb rb cap : Nat} {G : Nat → FuncId} {pt : Nat → Value} {I : Nat → World → Prop} {Z : World → Prop} (hp : RdPreI n tb rb G pt I Z) (hn : n ≤ 1000) (w : World) (h0 : I 0 w ∨ Z w) :
    Calls Try.prog 74 #[.pointer (some ⟨rb, 0, none⟩), .func (.func 70) #[] #[], .slice (some ⟨tb, 0, none⟩) n cap] w fun e w' => e = .returned (.tuple #[]) ∧ (I n w' ∨ Z w') := by
  have HP := hid hp
  have H0 := hid h0
  clear hp h0
  go_enter Try.func74, Try.ntmps74
  go_wp2
  go_loopw [11] (RdIRel n I Z) (fun i _ => n - (intOf i).toNat)
  case atStart => exact ⟨0, Nat.zero_le _, rfl, H0⟩
  case round =>
    clear H0
    obtain ⟨k, hk, rfl, hIZ⟩ := hrel
    by_cases hkn : k < n
    · have hkI : (k : Int) < (n : Int) := by omega
      rcases hIZ.out with hI | hZ
      · obtain ⟨s, ho, ht, hc⟩ := HP.out.step k wr hkn hI
        have eg : ∀ (args : Array Value) (w : World), (callFunc (G k) args).run Try.prog w = .ok (.enter (G k) args) w := HP.out.en k hkn
        unfold takerV at ht
        have c0 : wr.cell? ⟨rb, 0, none⟩ = some (.string s) := (ho.cell 0).trans rfl
        have c1 : wr.cell? ⟨rb, 1, none⟩ = some (.bool true) := (ho.cell 1).trans rfl
        have HC := hid hc
        clear hIZ hI ho hc
        generalize G k = g at *
        generalize pt k = p at *
        go_wp2_with (go_at_call 70; (with_reducible refine HC.out.mono ?_))
        rintro e w1 ⟨x, s', b, rfl, ho1, hz1, ht1⟩
        have d0 : w1.cell? ⟨rb, 0, none⟩ = some (.string s) := (ho1.cell 0).trans rfl
        have f0 := ho1.frozen 0
        have d1 : (w1.setCell ⟨rb, 0, none⟩ (.string s')).cell? ⟨rb, 1, none⟩ = some (.bool true) := ((ho1.set 0 (.string s')).cell 1).trans rfl
        have f1 : (w1.setCell ⟨rb, 0, none⟩ (.string s')).frozen? ⟨rb, 1, none⟩ = false := (ho1.set 0 (.string s')).frozen 1
        have HO := hid ho1
        have HT1 := hid ht1
        have HZ1 := hid hz1
        clear ho1 ht1 hz1
        have hg1 : ((w1.setCell ⟨rb, 0, none⟩ (.string s')).setCell ⟨rb, 1, none⟩ (.bool b)).cell? ⟨rb, 1, none⟩ = some (.bool b) := ((rdSet_own HO.out s' b).cell 1).trans rfl
        cases b with
        | false =>
          have HZ2 := hid (HZ1.out rfl)
          go_wp2
          go_roundw
          case rel => exact ⟨k + 1, by omega, by go_num, hid (.inr HZ2.out)⟩
          case measure => simp [intOf]; omega
        | true =>
          have HT2 := hid (HT1.out rfl)
          unfold rdSet at HT2
          go_wp2_with ((with_reducible refine HT2.out.mono ?_); rintro e w2 ⟨rfl, h2⟩; have HI2 := hid h2; clear h2)
          go_roundw
          case rel => exact ⟨k + 1, by omega, by go_num, hid (.inl HI2.out)⟩
          case measure => simp [intOf]; omega
      · obtain ⟨c1, ht⟩ := HP.out.bad k wr hkn hZ
        unfold takerV at ht
        have HZ := hid hZ
        clear hIZ hZ
        go_wp2
        refine bodyPost_ret (results_none rfl _ _ _) rfl ?_
        exact ⟨rfl, .inr HZ.out⟩
    · obtain rfl : k = n := by omega
      go_wp2
      go_end0
      exact ⟨rfl, hIZ.out⟩
end Go.Proofs.Ytiffdhihhggkhaa

/-
  LAYER 7 (msg), THE PROGRAM: the methods that put a decoded value into its cell.
-/
namespace Go.Proofs.Ytiffdhihhggkhaa
open Go.RowKit
set_option linter.unusedVariables false
set_option maxRecDepth 100000

theorem getCell {cs : Array Value} {k : Nat} (hk : k < cs.size) : ∃ v, cs[k]? = some v := ⟨cs[k], Array.getElem?_eq_getElem hk⟩
end Go.Proofs.Ytiffdhihhggkhaa


/-
  LAYER 7 (msg), THE PROGRAM: a list's item; a message's base.
-/
namespace Go.Proofs.Ytiffdhihhggkhaa
open Go.RowKit
set_option linter.unusedVariables false
set_option maxRecDepth 100000

def numTyL : RowTy Int := ⟨106, 3, 1, 8, fun x => [.int .i64 x], .int .i64 0⟩
theorem numTyL_ok : numTyL.Ok := ⟨fun _ => rfl, fun x u hu => by simp [numTyL] at hu; subst hu; rfl, by decide, Try.underlying106, by kernel_rfl, by kernel_rfl, rfl, by decide⟩
theorem rMid_numL {w wr : World} {v : Value} {L : List Int} : RMid numTy w wr v L ↔ RMid numTyL w wr v L := ⟨fun h => ⟨h.row, h.new, h.below⟩, fun h => ⟨h.row, h.new, h.below⟩⟩
/-- A list under way: its block lb holds the slice; the row is the list's own. -/
structure LsAt {α : Type} (R : RowTy α) (T : TypeId) (w0 w : World) (lb : Nat) (a : Option Addr) (cap : Nat) (xs : List α) : Prop where
  box : own w lb #[.slice a xs.length cap] T
  row : RMid R w0 w (.slice a xs.length cap) xs
  ne : (Value.slice a xs.length cap).ownBlock ≠ some lb
  ge : w0.heap.size ≤ lb
theorem LsAt.later {α : Type} {R : RowTy α} {T : TypeId} {w0 w w' : World} {lb : Nat} {a : Option Addr} {cap : Nat} {xs : List α} (h : LsAt R T w0 w lb a cap xs) (hb : Below w.heap.size w w') : LsAt R T w0 w' lb a cap xs :=
  ⟨h.box.same (hb.block _ h.box.lt), h.row.later hb, h.ne, h.ge⟩
theorem LsAt.chg {α : Type} {R : RowTy α} {T : TypeId} {w0 w w' : World} {lb : Nat} {a : Option Addr} {cap : Nat} {xs : List α} {S : Nat → Prop} (h : LsAt R T w0 w lb a cap xs) (hc : Chg S w w') (h1 : ¬ S lb) (h2 : ∀ x, (Value.slice a xs.length cap).ownBlock = some x → ¬ S x) (h3 : ∀ x, S x → w0.heap.size ≤ x) : LsAt R T w0 w' lb a cap xs :=
  ⟨h.box.chg hc h1, ⟨h.row.row.same (fun b e => hc.block b (h.row.row.lt b e) (h2 b e)), h.row.new, h.row.below.trans (hc.below h.row.below.size h3)⟩, h.ne, h.ge⟩
/-- One more at the list's end: what append makes, and the store. -/
theorem ls_push {α : Type} {R : RowTy α} (o : R.Ok) {T : TypeId} {w0 w : World} {lb : Nat} {a : Option Addr} {cap : Nat} {xs : List α} (h : LsAt R T w0 w lb a cap xs) (wx : World) (hwx : Below w.heap.size w wx) (x : α) (cs : Array Value) (ET ty : TypeId) (hc : cs.toList = R.cs x) (hl : xs.length ≤ 1000000) :
    ∃ a2 cap2 w5, (Builtin.append_ #[R.st, R.st] ty #[.slice a xs.length cap, .slice (some ⟨wx.heap.size, 0, none⟩) 1 1]).run Try.prog (wx.alloc (.cells cs ET)) = .ok (.slice a2 (xs.length + 1) cap2) w5 ∧
      w5.cell? ⟨lb, 0, none⟩ = some (.slice a xs.length cap) ∧ w5.frozen? ⟨lb, 0, none⟩ = false ∧
      Hid (LsAt R T w0 (w5.setCell ⟨lb, 0, none⟩ (.slice a2 (xs.length + 1) cap2)) lb a2 cap2 (xs ++ [x])) ∧ Hid (Chg (fun b => b = lb ∨ (Value.slice a xs.length cap).ownBlock = some b) w (w5.setCell ⟨lb, 0, none⟩ (.slice a2 (xs.length + 1) cap2))) ∧
      Hid (∀ b, (Value.slice a2 (xs ++ [x]).length cap2).ownBlock = some b → (Value.slice a xs.length cap).ownBlock = some b ∨ w.heap.size ≤ b) := by
  have hbA : Below w.heap.size w (wx.alloc (.cells cs ET)) := hwx.alloc hwx.size _
  have hX := h.later hbA
  have hu : RAt R (wx.alloc (.cells cs ET)) (.slice (some ⟨wx.heap.size, 0, none⟩) 1 1) [x] := rAt_box o (own.new wx cs ET) hc
  obtain ⟨a2, cap2, w5, hrun, hm5, hk5⟩ := hX.row.app o ty hu (by simp; omega)
  have hlen : (xs ++ [x]).length = xs.length + 1 := by simp
  obtain ⟨ao', cap', wr', hr', hown', hgr', hor'⟩ := run_app o (wx.alloc (.cells cs ET)) ty _ _ xs [x] hX.row.row hu (by simp; omega)
  have hsame := hrun.symm.trans hr'
  simp only [Result.ok.injEq] at hsame
  obtain ⟨hv', hw'⟩ := hsame
  subst hw'
  have hch : Chg (fun b => (Value.slice a xs.length cap).ownBlock = some b) (wx.alloc (.cells cs ET)) w5 := Chg.of_grown hgr'
  have hbx : own w5 lb #[.slice a xs.length cap] T := hX.box.chg hch h.ne
  have hnew : (Value.slice a2 (xs.length + 1) cap2).ownBlock ≠ some lb := by
    rw [show (Value.slice a2 (xs.length + 1) cap2) = _ from hv']
    rcases hor' with e | e
    · rw [e]; exact h.ne
    · rw [e]
      intro e2
      have h1 := h.box.lt
      have h2 := hbA.size
      cases e2
      omega
  have hset : Chg (fun b => b = lb) w5 (w5.setCell ⟨lb, 0, none⟩ (.slice a2 (xs.length + 1) cap2)) := (Chg.setCell w5 ⟨lb, 0, none⟩ _).mono (fun b e => e)
  refine ⟨a2, cap2, w5, hrun, (hbx.cell 0).trans rfl, hbx.frozen 0, hid ?_, hid ?_, hid ?_⟩
  · refine ⟨?_, ?_, by rw [hlen]; exact hnew, h.ge⟩
    · rw [hlen]; exact hbx.set 0 _
    · rw [hlen]
      refine ⟨hm5.row.same (fun b e => hset.block b (hm5.row.lt b e) (fun e2 => hnew (by rw [← e2]; exact e))), hm5.new, hm5.below.trans (hset.below hm5.below.size (fun b e => by rw [e]; exact h.ge))⟩
  · exact ((Chg.of_below hbA).trans (hch.mono (fun b e => .inr e)) (fun b e => .inl e)).trans (hset.mono (fun b e => .inl e)) (fun b e => .inl e)
  · intro b e
    rw [hlen, show (Value.slice a2 (xs.length + 1) cap2) = _ from hv'] at e
    rcases hor' with e1 | e1
    · exact .inl (e1.symm.trans e)
    · have h2 := hbA.size
      rw [e1] at e
      cases e
      exact .inr h2
set_option maxHeartbeats 4000000 in
theorem item_int {w0 w : World} {lb : Nat} {a : Option Addr} {cap : Nat} {xs : List Int} (h : LsAt numTyL 106 w0 w lb a cap xs) (x : Int) (hl : xs.length ≤ 1000000) :
    Calls Try.prog 75 #[.pointer (some ⟨lb, 0, none⟩), .int .i64 x] w fun e w' => e = .returned (.tuple #[]) ∧ ∃ a2 cap2, LsAt numTyL 106 w0 w' lb a2 cap2 (xs ++ [x]) ∧ Chg (fun b => b = lb ∨ (Value.slice a xs.length cap).ownBlock = some b) w w' ∧ ∀ b, (Value.slice a2 (xs ++ [x]).length cap2).ownBlock = some b → (Value.slice a xs.length cap).ownBlock = some b ∨ w.heap.size ≤ b := by
  obtain ⟨a2, cap2, w5, hrun, c5, f5, HL, HC, HNw⟩ := ls_push numTyL_ok h w (Below.refl _ _) x #[.int .i64 x] 3 106 rfl hl
  have c0 : w.cell? ⟨lb, 0, none⟩ = some (.slice a xs.length cap) := (h.box.cell 0).trans rfl
  have HRun : Hid ((Builtin.append_ #[106, 106] 106 #[.slice a xs.length cap, .slice (some ⟨w.heap.size, 0, none⟩) 1 1]).run Try.prog (w.alloc (.cells #[.int .i64 x] 3)) = .ok (.slice a2 (xs.length + 1) cap2) w5) := hid hrun
  have cA : (w.alloc (.cells #[.int .i64 x] 3)).cell? ⟨lb, 0, none⟩ = some (.slice a xs.length cap) := ((h.box.al _).cell 0).trans rfl
  clear hrun h
  go_enter Try.func75, Try.ntmps75
  go_wp2_with (at_builtin; refine wpList_append_at HRun.out (by with_reducible rfl) rfl _ _ rfl rfl rfl rfl ?_)
  go_end0
  exact ⟨rfl, a2, cap2, HL.out, HC.out, HNw.out⟩
theorem en_item_int : Enters 75 := enters_of Try.func75 (by kernel_rfl) rfl
end Go.Proofs.Ytiffdhihhggkhaa


/-
  LAYER 7 (msg), THE PROGRAM: toList of numbers, ToVoters.
-/
namespace Go.Proofs.Ytiffdhihhggkhaa
open Go.RowKit
set_option linter.unusedVariables false
set_option maxRecDepth 100000

theorem pI_no {l : List UInt8} (h : dI l = none) (hl : l.length ≤ maxLen) (w : World) : Calls Try.prog 70 #[.string (mk l)] w fun e w' => e = .returned (.tuple #[.int .i64 0, .string ⟨#[]⟩, .bool false]) ∧ Below w.heap.size w w' := by
  have h2 := toInt_any (mk l) w (by rw [mk_size]; exact hl)
  rw [mk_data, dI_none_of_toInt.2 h] at h2
  exact h2.mono fun e w' ⟨h3, m, h4⟩ => ⟨h3, by rw [h4]; exact below_drew (Below.refl _ _) _⟩
theorem pI_yes {l r : List UInt8} {n : Int} (h : dI l = some (n, r)) (hl : l.length ≤ maxLen) (w : World) : Calls Try.prog 70 #[.string (mk l)] w fun e w' => e = .returned (.tuple #[.int .i64 n, .string (mk r), .bool true]) ∧ Below w.heap.size w w' := by
  have h2 := toInt_any (mk l) w (by rw [mk_size]; exact hl)
  unfold dI at h
  cases ht : toInt l with
  | none => rw [ht] at h; simp at h
  | some p =>
    rw [ht] at h
    simp at h
    obtain ⟨rfl, rfl⟩ := h
    rw [mk_data, ht] at h2
    exact h2.mono fun e w' ⟨h3, m, h4⟩ => ⟨h3, by rw [h4]; exact below_drew (Below.refl _ _) _⟩
/-- What ToInt leaves, in one shape. -/
theorem pI_any (l : List UInt8) (hl : l.length ≤ maxLen) (w : World) : Calls Try.prog 70 #[.string (mk l)] w fun e w' => ∃ x s b, e = .returned (.tuple #[.int .i64 x, .string s, .bool b]) ∧ Below w.heap.size w w' ∧ (b = false → dI l = none) ∧ (b = true → ∃ r, s = mk r ∧ dI l = some (x, r)) := by
  cases h : dI l with
  | none => exact (pI_no h hl w).mono fun e w' ⟨h1, h2⟩ => ⟨0, ⟨#[]⟩, false, h1, h2, by simp, by simp⟩
  | some p => exact (pI_yes h hl w).mono fun e w' ⟨h1, h2⟩ => ⟨p.1, mk p.2, true, h1, h2, by simp, fun _ => ⟨p.2, rfl, rfl⟩⟩

/-- k of N numbers have been read, all is well. -/
structure TLs (w : World) (lb rb N k : Nat) (r0 : List UInt8) (wr : World) (r : List UInt8) (a : Option Addr) (cap : Nat) (vs : List Int) : Prop where
  ls : LsAt numTyL 106 w wr lb a cap vs
  rd : own wr rb (rdrCells (mk r) true) 108
  len : vs.length = k
  short : r.length ≤ maxLen
  eq : dNs N r0 = (dNs (N - k) r).map fun p => (vs ++ p.1, p.2)
  ne : rb ≠ lb
  ge : w.heap.size ≤ rb
  nr : (Value.slice a vs.length cap).ownBlock ≠ some rb
/-- One could not be read. -/
structure TLz (w : World) (rb N : Nat) (r0 : List UInt8) (wr : World) : Prop where
  eq : dNs N r0 = none
  rd : ∃ s, own wr rb (rdrCells s false) 108
  below : Below w.heap.size w wr
theorem TLs.later {w : World} {lb rb N k : Nat} {r0 : List UInt8} {wr wx : World} {r : List UInt8} {a : Option Addr} {cap : Nat} {vs : List Int} (h : TLs w lb rb N k r0 wr r a cap vs) (hb : Below wr.heap.size wr wx) : TLs w lb rb N k r0 wx r a cap vs :=
  { h with ls := h.ls.later hb, rd := h.rd.same (hb.block _ h.rd.lt) }
theorem TLz.later {w : World} {rb N : Nat} {r0 : List UInt8} {wr wx : World} (h : TLz w rb N r0 wr) (hb : Below wr.heap.size wr wx) : TLz w rb N r0 wx := by
  obtain ⟨s, hs⟩ := h.rd
  exact ⟨h.eq, ⟨s, hs.same (hb.block _ hs.lt)⟩, h.below.trans (hb.mono h.below.size)⟩
def takeItemV (lb : Nat) : Value := .func (.func 75) #[.pointer (some ⟨lb, 0, none⟩)] #[]
def TLI (w : World) (lb rb N k : Nat) (r0 : List UInt8) (tb : Nat) : Nat → World → Prop
  | 0, wx => k < N ∧ own wx tb #[takeItemV lb] 111 ∧ tb ≠ rb ∧ ∃ r a cap vs, TLs w lb rb N k r0 wx r a cap vs
  | _ + 1, wx => ∃ r a cap vs, TLs w lb rb N (k + 1) r0 wx r a cap vs
def TLZ (w : World) (lb rb N : Nat) (r0 : List UInt8) (tb : Nat) (wx : World) : Prop := TLz w rb N r0 wx ∧ own wx tb #[takeItemV lb] 111
theorem tl_pre {w : World} {lb rb N k : Nat} {r0 : List UInt8} {tb : Nat} (hN : N ≤ 9) : RdPreI 1 tb rb (fun _ => 75) (fun _ => .pointer (some ⟨lb, 0, none⟩)) (TLI w lb rb N k r0 tb) (TLZ w lb rb N r0 tb) where
  en := fun _ _ => en_item_int
  step := fun j wx hj hI => by
    obtain rfl : j = 0 := by omega
    obtain ⟨hkN, ho, hne, r, a, cap, vs, hs⟩ := hI
    refine ⟨mk r, hs.rd, (ho.cell 0).trans rfl, (pI_any r hs.short wx).mono ?_⟩
    rintro e w1 ⟨x, s, b, rfl, hb, h0, h1⟩
    have hs1 := hs.later hb
    have ho1 := ho.same (hb.block _ ho.lt)
    refine ⟨x, s, b, rfl, hs1.rd, ?_, ?_⟩
    · rintro rfl
      refine ⟨⟨?_, ⟨s, rdSet_own hs1.rd s false⟩, hs1.ls.row.below.trans ((rdSet_chg w1 rb s false).below hs1.ls.row.below.size (fun b e => by rw [e]; exact hs.ge))⟩, rdSet_other ho1 hne⟩
      have hm : N - k = (N - (k + 1)) + 1 := by omega
      rw [hs.eq, hm, dNs, h0 rfl]
      rfl
    · rintro rfl
      obtain ⟨r', rfl, hd⟩ := h1 rfl
      have hls := hs1.ls.chg (rdSet_chg w1 rb (mk r') true) (fun e => hs.ne e.symm) (fun b e e2 => hs.nr (by rw [e, e2])) (fun b e => by rw [e]; exact hs.ge)
      refine (item_int hls x (by rw [hs.len]; omega)).mono ?_
      rintro e w2 ⟨rfl, a2, cap2, hl2, hc2, hn2⟩
      have hrd := rdSet_own hs1.rd (mk r') true
      refine ⟨rfl, r', a2, cap2, vs ++ [x], hl2, hrd.chg hc2 ?_, by simp [hs.len], by have := dI_shorter hd; have := hs.short; omega, ?_, hs.ne, hs.ge, ?_⟩
      · rintro (e | e)
        · exact hs.ne e
        · exact hs.nr e
      · have hm : N - k = (N - (k + 1)) + 1 := by omega
        rw [hs.eq, hm, dNs, hd]
        simp only
        cases dNs (N - (k + 1)) r' with
        | none => rfl
        | some q => simp
      · intro e
        rcases hn2 _ e with e | e
        · exact hs.nr e
        · have := hrd.lt; omega
  bad := fun j wx hj hZ => by
    obtain rfl : j = 0 := by omega
    obtain ⟨hz, ho⟩ := hZ
    obtain ⟨s, hs⟩ := hz.rd
    exact ⟨(hs.cell 1).trans rfl, (ho.cell 0).trans rfl⟩
end Go.Proofs.Ytiffdhihhggkhaa

/-
  LAYER 7 (msg), THE PROGRAM: toList of numbers, ToVoters.
-/
namespace Go.Proofs.Ytiffdhihhggkhaa
open Go.RowKit
set_option linter.unusedVariables false
set_option maxRecDepth 100000

def TLRel (w : World) (lb rb N : Nat) (r0 : List UInt8) (u : Value) (wr : World) : Prop :=
  ∃ k : Nat, k ≤ N ∧ u = .int .i64 (k : Int) ∧ Hid ((∃ r a cap vs, TLs w lb rb N k r0 wr r a cap vs) ∨ TLz w rb N r0 wr)
theorem tl_round {w : World} {lb rb N k : Nat} {r0 : List UInt8} {wr : World} (hN : N ≤ 9) (hk : k < N) (h : (∃ r a cap vs, TLs w lb rb N k r0 wr r a cap vs) ∨ TLz w rb N r0 wr) :
    Calls Try.prog 74 #[.pointer (some ⟨rb, 0, none⟩), .func (.func 70) #[] #[], .slice (some ⟨wr.heap.size, 0, none⟩) 1 1] (wr.alloc (.cells #[.func (.func 75) #[.pointer (some ⟨lb, 0, none⟩)] #[]] 111)) fun e w' => e = .returned (.tuple #[]) ∧ TLRel w lb rb N r0 (.int .i64 ((k + 1 : Nat) : Int)) w' := by
  have hbA : Below wr.heap.size wr (wr.alloc (.cells #[takeItemV lb] 111)) := (Below.refl _ _).alloc (Nat.le_refl _) _
  have ho := own.new wr #[takeItemV lb] 111
  have h0 : TLI w lb rb N k r0 wr.heap.size 0 (wr.alloc (.cells #[takeItemV lb] 111)) ∨ TLZ w lb rb N r0 wr.heap.size (wr.alloc (.cells #[takeItemV lb] 111)) := by
    rcases h with ⟨r, a, cap, vs, hs⟩ | hz
    · exact .inl ⟨hk, ho, fun e => by have := hs.rd.lt; omega, r, a, cap, vs, hs.later hbA⟩
    · exact .inr ⟨hz.later hbA, ho⟩
  exact (readI_any (tl_pre (w := w) (lb := lb) (rb := rb) (k := k) (r0 := r0) (tb := wr.heap.size) hN) (by omega) _ h0).mono fun e w' ⟨h1, h2⟩ => ⟨h1, k + 1, by omega, rfl, hid (by
    rcases h2 with h2 | h2
    · exact .inl h2
    · exact .inr h2.1)⟩
set_option maxHeartbeats 8000000 in
theorem toListInt_any (l : List UInt8) (w : World) (hl : l.length ≤ maxLen) :
    Calls Try.prog 69 #[.string (mk l), .int .i64 9, .func (.func 70) #[] #[]] w (TVPost w (dV l)) := by
  obtain ⟨q, hq⟩ : ∃ q, dV l = q := ⟨_, rfl⟩
  rw [hq]
  have HNone : Hid (dV l = none → ∀ wx, Below w.heap.size w wx → TVPost w q (.returned (.tuple #[.slice none 0 0, .string ⟨#[]⟩, .bool false])) wx) := hid (fun h wx hb => by
    rw [← hq, h]
    exact ⟨rfl, hb⟩)
  have HSome : Hid (∀ xs r, dV l = some (xs, r) → ∀ a cap wx, RMid numTy w wx (.slice a xs.length cap) xs → TVPost w q (.returned (.tuple #[.slice a xs.length cap, .string (mk r), .bool true])) wx) := hid (fun xs r h a cap wx hm => by
    rw [← hq, h]
    exact ⟨a, cap, rfl, hm⟩)
  clear hq
  cases hd : dI l with
  | none =>
    have HI := hid (pI_no hd hl w)
    have HV : Hid (dV l = none) := hid (by unfold dV; rw [hd])
    clear hd
    go_enter Try.func69, Try.ntmps69
    go_wp2_with (go_at_call 70; (with_reducible refine HI.out.mono ?_); rintro e w1 ⟨rfl, hb⟩)
    go_ret3
    exact HNone.out HV.out _ hb
  | some p =>
    obtain ⟨n, r0⟩ := p
    have HI := hid (pI_yes hd hl w)
    have hs := dI_shorter hd
    have hdv : dV l = if n < 0 ∨ 9 < n then none else dNs n.toNat r0 := by unfold dV; rw [hd]
    by_cases hn : n < 0
    · have HV : Hid (dV l = none) := hid (by rw [hdv, if_pos (.inl hn)])
      have d1 : decide (n < 0) = true := decide_eq_true hn
      clear hd hdv
      go_enter Try.func69, Try.ntmps69
      go_wp2_with (go_at_call 70; (with_reducible refine HI.out.mono ?_); rintro e w1 ⟨rfl, hb⟩)
      go_ret3
      exact HNone.out HV.out _ hb
    have d1 : decide (n < 0) = false := decide_eq_false hn
    by_cases hn9 : 9 < n
    · have HV : Hid (dV l = none) := hid (by rw [hdv, if_pos (.inr hn9)])
      have d2 : decide (9 < n) = true := decide_eq_true hn9
      clear hd hdv
      go_enter Try.func69, Try.ntmps69
      go_wp2_with (go_at_call 70; (with_reducible refine HI.out.mono ?_); rintro e w1 ⟨rfl, hb⟩)
      go_ret3
      exact HNone.out HV.out _ hb
    have d2 : decide (9 < n) = false := decide_eq_false hn9
    rw [if_neg (by omega)] at hdv
    obtain ⟨N, rfl⟩ : ∃ N : Nat, n = (N : Int) := ⟨n.toNat, by omega⟩
    rw [Int.toNat_natCast] at hdv
    have HV := hid hdv
    have hN9 : N ≤ 9 := by omega
    have HN9 := hid hN9
    have HS0 : Hid (∀ w1, Below w.heap.size w w1 → TLRel w w1.heap.size (w1.heap.size + 1) N r0 (.int .i64 0) ((w1.alloc (.cells #[.slice none 0 0] 106)).alloc (.cells #[.string (mk r0), .bool true] 108))) := hid (fun w1 hb => by
      have hz := hb.size
      have hbL : Below w.heap.size w ((w1.alloc (.cells #[.slice none 0 0] 106)).alloc (.cells #[.string (mk r0), .bool true] 108)) := (hb.alloc hz _).alloc (by simp; omega) _
      refine ⟨0, Nat.zero_le _, rfl, hid (.inl ⟨r0, none, 0, [], ⟨(own.new w1 _ _).al _, ⟨rOwn_nil _, fun b e => by simp [Value.ownBlock] at e, hbL⟩, by simp [Value.ownBlock], hz⟩, own.nw (by simp), rfl, by omega, ?_, by omega, by omega, by simp [Value.ownBlock]⟩)⟩
      rw [Nat.sub_zero]
      cases dNs N r0 <;> rfl)
    clear hd hdv
    go_enter Try.func69, Try.ntmps69
    go_wp2_with (go_at_call 70; (with_reducible refine HI.out.mono ?_); rintro e w1 ⟨rfl, hb⟩; have HB := hid hb; clear hb)
    go_loopw [34] (TLRel w w1.heap.size (w1.heap.size + 1) N r0) (fun i _ => N - (intOf i).toNat)
    case atStart => exact HS0.out _ HB.out
    case round =>
      obtain ⟨k, hk, rfl, hst⟩ := hrel
      by_cases hkN : k < N
      · have hkI : (k : Int) < (N : Int) := by omega
        have HR := hid (tl_round HN9.out hkN hst.out)
        clear hst
        go_wp2_with (go_at_call 74; (with_reducible refine HR.out.mono ?_); rintro e w2 ⟨rfl, h2⟩; have HQ := hid h2; clear h2)
        go_roundw
        case rel => exact HQ.out
        case measure => simp [intOf]; omega
      · obtain rfl : k = N := by omega
        rcases hst.out with ⟨r, a, cap, vs, hs⟩ | hz
        · have c0 : wr.cell? ⟨w1.heap.size + 1, 0, none⟩ = some (.string (mk r)) := (hs.rd.cell 0).trans rfl
          have c1 : wr.cell? ⟨w1.heap.size + 1, 1, none⟩ = some (.bool true) := (hs.rd.cell 1).trans rfl
          have cl : wr.cell? ⟨w1.heap.size, 0, none⟩ = some (.slice a vs.length cap) := (hs.ls.box.cell 0).trans rfl
          have HD : Hid (∀ m, RMid numTy w (wr.drewN m) (.slice a vs.length cap) vs) := hid (fun m => (rMid_numL.2 hs.ls.row).later (below_drew (Below.refl _ _) m))
          have heq := hs.eq
          rw [Nat.sub_self] at heq
          have HV2 : Hid (dV l = some (vs, r)) := hid (by rw [HV.out, heq]; simp [dNs])
          clear heq hs hst
          go_wp2
          go_quiet (fail)
          all_goals
            go_wp2
            go_ret3
            exact HSome.out _ _ HV2.out _ _ _ (HD.out _)
        · obtain ⟨s, hs⟩ := hz.rd
          have c1 : wr.cell? ⟨w1.heap.size + 1, 1, none⟩ = some (.bool false) := (hs.cell 1).trans rfl
          have HV2 : Hid (dV l = none) := hid (by rw [HV.out, hz.eq])
          have HBz := hid hz.below
          clear hs hst hz
          go_wp2
          go_ret3
          exact HNone.out HV2.out _ HBz.out
theorem toVoters_any (l : List UInt8) (w : World) (hl : l.length ≤ maxLen) : Calls Try.prog 59 #[.string (mk l)] w (TVPost w (dV l)) := by
  have HT := hid (toListInt_any l w hl)
  cases hq : dV l with
  | none =>
    rw [hq] at HT
    clear hq
    go_enter Try.func59, Try.ntmps59
    go_wp2_with (go_at_call 69; (with_reducible refine HT.out.mono ?_); rintro e w1 ⟨rfl, hb⟩)
    go_ret3
    exact ⟨rfl, hb⟩
  | some p =>
    obtain ⟨xs, r⟩ := p
    rw [hq] at HT
    clear hq
    go_enter Try.func59, Try.ntmps59
    go_wp2_with (go_at_call 69; (with_reducible refine HT.out.mono ?_); rintro e w1 ⟨a, cap, rfl, hm⟩; have HM := hid hm; clear hm)
    go_ret3
    exact ⟨a, cap, rfl, HM.out⟩
end Go.Proofs.Ytiffdhihhggkhaa

