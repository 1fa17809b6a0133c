/-
  LAYER 7 (msg), THE PROGRAM: numbers, and a text, read into a box.
-/
import Derived.Test.YtppjojjejabaeaaMsToW
import Derived.Test.YtppjojjejabaeaaMsRdB
namespace Go.Proofs.Ytppjojjejabaeaa
open Go.RowKit
set_option linter.unusedVariables false
set_option maxRecDepth 100000

/-- The reader: what is left, or that something could not be read. -/
def RdIs (w : World) (rb : Nat) : Option (List UInt8) → Prop
  | some l => l.length ≤ 140737488355328 ∧ own w rb (rdrCells (mk l) true) 95
  | none => ∃ s, own w rb (rdrCells s false) 95
theorem RdIs.any {w : World} {rb : Nat} {q : Option (List UInt8)} (h : RdIs w rb q) : ∃ s, own w rb (rdrCells s q.isSome) 95 := by
  cases q with
  | none => exact h
  | some l => exact ⟨_, h.2⟩
theorem RdIs.lt {w : World} {rb : Nat} {q : Option (List UInt8)} (h : RdIs w rb q) : rb < w.heap.size := by
  obtain ⟨s, hs⟩ := h.any
  exact hs.lt
theorem RdIs.same {w w' : World} {rb : Nat} {q : Option (List UInt8)} (h : RdIs w rb q) (hs : w'.heap[rb]? = w.heap[rb]?) : RdIs w' rb q := by
  cases q with
  | none => obtain ⟨s, h⟩ := h; exact ⟨s, h.same hs⟩
  | some l => exact ⟨h.1, h.2.same hs⟩
def intsV (ns : List Int) (rest : List Value) : Array Value := (ns.map (Value.int .i64) ++ rest).toArray
theorem intsV_set (ns : List Int) (rest : List Value) (k : Nat) (hk : k < ns.length) (x : Int) : (intsV ns rest).setIfInBounds k (.int .i64 x) = intsV (ns.set k x) rest := by
  unfold intsV
  rw [List.setIfInBounds_toArray, List.set_append_left _ _ (by simpa using hk), List.map_set]
/-- k of N numbers stand in the box. -/
structure NmAt (w : World) (mb rb tb N : Nat) (TB TF : TypeId) (fs : Array Value) (rest : List Value) (l : List UInt8) (k : Nat) (wx : World) (ns : List Int) (r : List UInt8) : Prop where
  len : ns.length = N
  box : own wx mb (intsV ns rest) TB
  rd : own wx rb (rdrCells (mk r) true) 95
  tk : own wx tb fs TF
  short : r.length ≤ 140737488355328
  eq : dNs N l = (dNs (N - k) r).map fun p => (ns.take k ++ p.1, p.2)
  chg : Chg (fun b => b = mb ∨ b = rb) w wx
structure NmZ (w : World) (mb rb tb N : Nat) (TB TF : TypeId) (fs : Array Value) (rest : List Value) (l : List UInt8) (wx : World) : Prop where
  box : ∃ ns : List Int, ns.length = N ∧ own wx mb (intsV ns rest) TB
  rd : ∃ s, own wx rb (rdrCells s false) 95
  tk : own wx tb fs TF
  eq : dNs N l = none
  chg : Chg (fun b => b = mb ∨ b = rb) w wx
theorem nm_pre {w : World} {mb rb tb N : Nat} {TB TF : TypeId} {fs : Array Value} {rest : List Value} {l : List UInt8} {G : Nat → FuncId} (hG : ∀ k, k < N → Enters (G k)) (hfs : ∀ k, k < N → fs[k]? = some (takerV G (fun _ => .pointer (some ⟨mb, 0, none⟩)) k))
    (hset : ∀ k, k < N → ∀ (wx : World) (cs : Array Value), own wx mb cs TB → k < cs.size → ∀ x : Int, Calls Try.prog (G k) #[.pointer (some ⟨mb, 0, none⟩), .int .i64 x] wx fun e w' => e = .returned (.tuple #[]) ∧ w' = wx.setCell ⟨mb, k, none⟩ (.int .i64 x))
    (h1 : mb ≠ rb) (h2 : tb ≠ rb) (h3 : tb ≠ mb) :
    RdPreI N tb rb G (fun _ => .pointer (some ⟨mb, 0, none⟩)) (fun k wx => k ≤ N ∧ ∃ ns r, NmAt w mb rb tb N TB TF fs rest l k wx ns r) (NmZ w mb rb tb N TB TF fs rest l) where
  en := hG
  step := fun k wx hk hI => by
    obtain ⟨hkN, ns, r, hs⟩ := hI
    refine ⟨mk r, hs.rd, (hs.tk.cell k).trans (hfs k hk), (pI_any r (by have := hs.short; unfold maxLen; omega) wx).mono ?_⟩
    rintro e w1 ⟨x, s, b, rfl, hb, h0, h5⟩
    have hbox := hs.box.same (hb.block _ hs.box.lt)
    have hrd := hs.rd.same (hb.block _ hs.rd.lt)
    have htk := hs.tk.same (hb.block _ hs.tk.lt)
    have hch : Chg (fun b => b = mb ∨ b = rb) w w1 := hs.chg.trans (Chg.of_below hb (S := fun b => b = mb ∨ b = rb)) (fun b e => .inl e)
    have hm : N - k = (N - (k + 1)) + 1 := by omega
    have hch2 : ∀ s b, Chg (fun b => b = mb ∨ b = rb) w (rdSet w1 rb s b) := fun s b => hch.trans ((rdSet_chg w1 rb s b).mono (fun x e => .inr e)) (fun b e => .inl e)
    refine ⟨x, s, b, rfl, hrd, ?_, ?_⟩
    · rintro rfl
      refine ⟨⟨ns, hs.len, rdSet_other hbox h1⟩, ⟨s, rdSet_own hrd s false⟩, rdSet_other htk h2, ?_, hch2 s false⟩
      rw [hs.eq, hm, dNs, h0 rfl]
      rfl
    · rintro rfl
      obtain ⟨r', rfl, hd⟩ := h5 rfl
      have hbox2 := rdSet_other (s' := mk r') (b' := true) hbox h1
      refine (hset k hk _ _ hbox2 (by simp [intsV, hs.len]; omega) x).mono ?_
      rintro e w2 ⟨rfl, rfl⟩
      refine ⟨rfl, by omega, ns.set k x, r', by simp [hs.len], ?_, ?_, ?_, ?_, ?_, ?_⟩
      · rw [← intsV_set ns rest k (by rw [hs.len]; exact hk) x]
        exact hbox2.set k _
      · exact (rdSet_own hrd (mk r') true).other (p := ⟨mb, k, none⟩) (Ne.symm h1) _
      · exact (rdSet_other htk h2).other (p := ⟨mb, k, none⟩) h3 _
      · have := dI_shorter hd; have := hs.short; omega
      · rw [hs.eq, hm, dNs, hd]
        have e1 : (ns.set k x).take (k + 1) = ns.take k ++ [x] := by
          rw [List.take_succ_eq_append_getElem (by simp [hs.len]; omega), List.getElem_set_self, List.take_set, List.set_eq_of_length_le (by rw [List.length_take]; omega)]
        rw [e1]
        simp only
        cases dNs (N - (k + 1)) r' with
        | none => rfl
        | some q => simp
      · exact (hch2 (mk r') true).trans ((Chg.setCell _ ⟨mb, k, none⟩ _).mono (fun b e => .inl e)) (fun b e => .inl e)
  bad := fun k wx hk hZ => by
    obtain ⟨s, hs⟩ := hZ.rd
    exact ⟨(hs.cell 1).trans rfl, (hZ.tk.cell k).trans (hfs k hk)⟩
/-- What a read of N numbers into a box leaves. -/
structure NmPost (w : World) (mb rb N : Nat) (TB : TypeId) (rest : List Value) (l : List UInt8) (w' : World) (ns : List Int) : Prop where
  len : ns.length = N
  box : own w' mb (intsV ns rest) TB
  rd : RdIs w' rb ((dNs N l).map fun p => p.2)
  eq : ∀ p, dNs N l = some p → p.1 = ns
  chg : Chg (fun b => b = mb ∨ b = rb) w w'
theorem readNums {w : World} {mb rb tb N : Nat} {TB TF : TypeId} {fs : Array Value} {rest : List Value} {l : List UInt8} {G : Nat → FuncId} (hG : ∀ k, k < N → Enters (G k)) (hfs : ∀ k, k < N → fs[k]? = some (takerV G (fun _ => .pointer (some ⟨mb, 0, none⟩)) k))
    (hset : ∀ k, k < N → ∀ (wx : World) (cs : Array Value), own wx mb cs TB → k < cs.size → ∀ x : Int, Calls Try.prog (G k) #[.pointer (some ⟨mb, 0, none⟩), .int .i64 x] wx fun e w' => e = .returned (.tuple #[]) ∧ w' = wx.setCell ⟨mb, k, none⟩ (.int .i64 x))
    (h1 : mb ≠ rb) (h2 : tb ≠ rb) (h3 : tb ≠ mb) (hN : N ≤ 1000) (ns : List Int) (hn : ns.length = N) (hbox : own w mb (intsV ns rest) TB) (hrd : own w rb (rdrCells (mk l) true) 95) (hl : l.length ≤ 140737488355328) (htk : own w tb fs TF) :
    Calls Try.prog 59 #[.pointer (some ⟨rb, 0, none⟩), .func (.func 43) #[] #[], .slice (some ⟨tb, 0, none⟩) N N] w fun e w' => e = .returned (.tuple #[]) ∧ ∃ ns, NmPost w mb rb N TB rest l w' ns := by
  have h0 : 0 ≤ N ∧ ∃ ns r, NmAt w mb rb tb N TB TF fs rest l 0 w ns r := ⟨Nat.zero_le _, ns, l, hn, hbox, hrd, htk, hl, by rw [Nat.sub_zero]; cases dNs N l <;> rfl, Chg.refl _ _⟩
  refine (readI_any (nm_pre (w := w) (rest := rest) (l := l) (TF := TF) hG hfs hset h1 h2 h3) hN w (.inl h0)).mono ?_
  rintro e w' ⟨rfl, ⟨_, ns', r, hs⟩ | hz⟩
  · have e1 : dNs N l = some (ns', r) := by
      rw [hs.eq, Nat.sub_self]
      simp [dNs, List.take_of_length_le (Nat.le_of_eq hs.len)]
    exact ⟨rfl, ns', hs.len, hs.box, by rw [e1]; exact ⟨hs.short, hs.rd⟩, fun p hp => by rw [e1] at hp; cases hp; rfl, hs.chg⟩
  · obtain ⟨ns', hl', hb'⟩ := hz.box
    exact ⟨rfl, ns', hl', hb', by rw [hz.eq]; exact hz.rd, (fun p hp => by rw [hz.eq] at hp; cases hp), hz.chg⟩

/-- ToText, in one shape. -/
theorem pT_any (l : List UInt8) (hl : l.length ≤ maxLen) (w : World) : Calls Try.prog 77 #[.string (mk l)] w fun e w' => ∃ t s b, e = .returned (.tuple #[.string t, .string s, .bool b]) ∧ Below w.heap.size w w' ∧ (b = false → dT l = none) ∧ (b = true → ∃ r, s = mk r ∧ dT l = some (t, r)) := by
  refine (toText_any (mk l) w (by rw [mk_size]; exact hl)).mono ?_
  rintro e w' ⟨rfl, hb⟩
  rw [mk_data]
  unfold dT
  cases toText l with
  | none => exact ⟨⟨#[]⟩, ⟨#[]⟩, false, rfl, hb, by simp, by simp⟩
  | some p => exact ⟨mk p.1, mk p.2, true, rfl, hb, by simp, fun _ => ⟨p.2, rfl, rfl⟩⟩
theorem dT_short {l r : List UInt8} {t : ByteArray} (h : dT l = some (t, r)) : t.size + r.length ≤ l.length := by
  have := dT_sound h
  rw [this, List.length_append]
  unfold txt
  rw [List.length_append, str_len]
  omega
/-- What a read of one text into the cell k of a box leaves. -/
structure TxPost (w : World) (mb rb k : Nat) (TB : TypeId) (cs : Array Value) (q : Option (List UInt8)) (w' : World) (d : ByteArray) : Prop where
  box : own w' mb (cs.setIfInBounds k (.string d)) TB
  rd : RdIs w' rb (q.bind fun l => (dT l).map fun p => p.2)
  eq : ∀ l p, q = some l → dT l = some p → p.1 = d
  chg : Chg (fun b => b = mb ∨ b = rb) w w'
theorem readText {w : World} {mb rb tb k : Nat} {TB TF : TypeId} {cs : Array Value} {g : FuncId} {q : Option (List UInt8)} (hg : Enters g)
    (hset : ∀ (wx : World), own wx mb cs TB → ∀ s : ByteArray, s.size ≤ 140737488355328 → Calls Try.prog g #[.pointer (some ⟨mb, 0, none⟩), .string s] wx fun e w' => e = .returned (.tuple #[]) ∧ ∃ w1, Below wx.heap.size wx w1 ∧ w' = w1.setCell ⟨mb, k, none⟩ (.string s))
    (h1 : mb ≠ rb) (h2 : tb ≠ rb) (h3 : tb ≠ mb) {d0 : ByteArray} (hc : cs[k]? = some (.string d0)) (hbox : own w mb cs TB) (hrd : RdIs w rb q) (htk : own w tb #[.func (.func g) #[.pointer (some ⟨mb, 0, none⟩)] #[]] TF) :
    Calls Try.prog 76 #[.pointer (some ⟨rb, 0, none⟩), .func (.func 77) #[] #[], .slice (some ⟨tb, 0, none⟩) 1 1] w fun e w' => e = .returned (.tuple #[]) ∧ ∃ d, TxPost w mb rb k TB cs q w' d := by
  have hcs : cs.setIfInBounds k (.string d0) = cs := by
    apply Array.ext_getElem?
    intro i
    rw [Array.getElem?_setIfInBounds]
    split
    · subst i
      split
      · exact hc.symm
      · next h => rw [Array.getElem?_eq_none (by omega)] 
    · rfl
  let I : Nat → World → Prop := fun j wx => match j with
    | 0 => wx = w ∧ ∃ l, q = some l
    | _ + 1 => ∃ d, TxPost w mb rb k TB cs q wx d ∧ ∃ l p, q = some l ∧ dT l = some p
  let Z : World → Prop := fun wx => own wx tb #[.func (.func g) #[.pointer (some ⟨mb, 0, none⟩)] #[]] TF ∧ TxPost w mb rb k TB cs q wx d0 ∧ (q.bind fun l => (dT l).map fun p => p.2) = none
  have hpre : RdPreS 1 tb rb (fun _ => g) (fun _ => .pointer (some ⟨mb, 0, none⟩)) I Z := by
    refine ⟨fun _ _ => hg, ?_, ?_⟩
    · intro j wx hj hI
      obtain rfl : j = 0 := by omega
      obtain ⟨rfl, l, rfl⟩ := hI
      obtain ⟨hll, hrd⟩ := hrd
      refine ⟨mk l, hrd, (htk.cell 0).trans rfl, (pT_any l (by unfold maxLen; omega) wx).mono ?_⟩
      rintro e w1 ⟨t, s, b, rfl, hb, h0, h5⟩
      have hbox1 := hbox.same (hb.block _ hbox.lt)
      have hrd1 := hrd.same (hb.block _ hrd.lt)
      have htk1 := htk.same (hb.block _ htk.lt)
      refine ⟨t, s, b, rfl, hrd1, ?_, ?_⟩
      · rintro rfl
        have hnone : ((some l).bind fun l => (dT l).map fun p => p.2) = none := by simp [h0 rfl]
        refine ⟨rdSet_other htk1 h2, ⟨by rw [hcs]; exact rdSet_other hbox1 h1, by rw [hnone]; exact ⟨s, rdSet_own hrd1 s false⟩, (fun l' p hl' hp => by cases hl'; rw [h0 rfl] at hp; cases hp), ?_⟩, hnone⟩
        exact (Chg.of_below hb).trans ((rdSet_chg w1 rb s false).mono (fun x e => .inr e)) (fun b e => .inl e)
      · rintro rfl
        obtain ⟨r', rfl, hd⟩ := h5 rfl
        have hsz := dT_short hd
        refine (hset _ (rdSet_other hbox1 h1) t (by omega)).mono ?_
        rintro e w3 ⟨rfl, w2, hb2, rfl⟩
        have hbox2 := (rdSet_other (s' := mk r') (b' := true) hbox1 h1)
        have hbox3 := hbox2.same (hb2.block _ hbox2.lt)
        have hrd2 := rdSet_own hrd1 (mk r') true
        have hrd3 := hrd2.same (hb2.block _ hrd2.lt)
        refine ⟨rfl, t, ⟨hbox3.set k _, ?_, (fun l' p hl' hp => by cases hl'; rw [hd] at hp; cases hp; rfl), ?_⟩, l, _, rfl, hd⟩
        · have e1 : ((some l).bind fun l => (dT l).map fun p => p.2) = some r' := by simp [hd]
          rw [e1]
          exact ⟨by omega, hrd3.other (p := ⟨mb, k, none⟩) (Ne.symm h1) _⟩
        · have c1 : Chg (fun b => b = mb ∨ b = rb) wx w1 := Chg.of_below hb
          have c2 : Chg (fun b => b = mb ∨ b = rb) w1 (rdSet w1 rb (mk r') true) := (rdSet_chg w1 rb (mk r') true).mono (fun x e => .inr e)
          have c3 : Chg (fun b => b = mb ∨ b = rb) (rdSet w1 rb (mk r') true) w2 := Chg.of_below hb2
          have c4 : Chg (fun b => b = mb ∨ b = rb) w2 (w2.setCell ⟨mb, k, none⟩ (.string t)) := (Chg.setCell w2 ⟨mb, k, none⟩ _).mono (fun b e => .inl e)
          exact ((c1.trans c2 (fun b e => .inl e)).trans c3 (fun b e => .inl e)).trans c4 (fun b e => .inl e)
    · intro j wx hj hZ
      obtain rfl : j = 0 := by omega
      obtain ⟨ho, hp, hq⟩ := hZ
      have hr := hp.rd
      rw [hq] at hr
      obtain ⟨s, hs⟩ := hr
      exact ⟨(hs.cell 1).trans rfl, (ho.cell 0).trans rfl⟩
  have h0 : I 0 w ∨ Z w := by
    cases q with
    | none => exact .inr ⟨htk, ⟨by rw [hcs]; exact hbox, hrd, (fun l p hl _ => by cases hl), Chg.refl _ _⟩, rfl⟩
    | some l => exact .inl ⟨rfl, l, rfl⟩
  refine (readS_any hpre (by omega) w h0).mono ?_
  rintro e w' ⟨rfl, h | h⟩
  · obtain ⟨d, hp, _⟩ := h
    exact ⟨rfl, d, hp⟩
  · exact ⟨rfl, d0, h.2.1⟩
end Go.Proofs.Ytppjojjejabaeaa
