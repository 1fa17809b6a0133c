/-
  LAYER 7 (msg), THE PROGRAM: one row, or one bool, read into a box.
-/
import Derived.Test.YtppjojjejabaeaaMsToM
import Derived.Test.YtppjojjejabaeaaMsRdV
namespace Go.Proofs.Ytppjojjejabaeaa
open Go.RowKit
set_option linter.unusedVariables false
set_option maxRecDepth 100000

theorem dV_shorter {l r : List UInt8} {xs : List Int} (h : dV l = some (xs, r)) : r.length ≤ l.length := by
  have := (dV_sound h).2.2
  rw [this, List.length_append]
  omega
theorem dL_shorter {l r : List UInt8} {xs : List Me} (h : dL l = some (xs, r)) : r.length ≤ l.length := by
  unfold dL at h
  cases hd : dI l with
  | none => rw [hd] at h; cases h
  | some p =>
    obtain ⟨n, r0⟩ := p
    rw [hd] at h
    simp only [Option.bind_some] at h
    split at h
    · cases h
    · have h1 := dI_shorter hd
      have h2 := (dEs_sound _ _ _ _ h).2
      rw [h2, List.length_append] at h1
      omega
theorem pV_any (l : List UInt8) (hl : l.length ≤ 10000000) (w : World) : Calls Try.prog 21 #[.string (mk l)] w fun e w' => ∃ a n c s b, e = .returned (.tuple #[.slice a n c, .string s, .bool b]) ∧ Below w.heap.size w w' ∧ (b = false → dV l = none) ∧ (b = true → ∃ xs r, s = mk r ∧ dV l = some (xs, r) ∧ n = xs.length ∧ RMid numTy w w' (.slice a n c) xs) := by
  refine (toVoters_any l w (by unfold maxLen; omega)).mono ?_
  intro e w' h
  cases hd : dV l with
  | none => rw [hd] at h; obtain ⟨rfl, hb⟩ := h; exact ⟨none, 0, 0, ⟨#[]⟩, false, rfl, hb, by simp, by simp⟩
  | some p => rw [hd] at h; obtain ⟨a, cap, rfl, hm⟩ := h; exact ⟨a, p.1.length, cap, mk p.2, true, rfl, hm.below, by simp, fun _ => ⟨p.1, p.2, rfl, rfl, rfl, hm⟩⟩
theorem pL_any (l : List UInt8) (hl : l.length ≤ 10000000) (w : World) : Calls Try.prog 71 #[.string (mk l)] w fun e w' => ∃ a n c s b, e = .returned (.tuple #[.slice a n c, .string s, .bool b]) ∧ Below w.heap.size w w' ∧ (b = false → dL l = none) ∧ (b = true → ∃ xs r, s = mk r ∧ dL l = some (xs, r) ∧ n = xs.length ∧ RMid enTy w w' (.slice a n c) xs) := by
  refine (toEntries_any l w hl).mono ?_
  intro e w' h
  cases hd : dL l with
  | none => rw [hd] at h; obtain ⟨rfl, hb⟩ := h; exact ⟨none, 0, 0, ⟨#[]⟩, false, rfl, hb, by simp, by simp⟩
  | some p => rw [hd] at h; obtain ⟨a, cap, rfl, hm⟩ := h; exact ⟨a, p.1.length, cap, mk p.2, true, rfl, hm.below, by simp, fun _ => ⟨p.1, p.2, rfl, rfl, rfl, hm⟩⟩
theorem dB_shorter {l r : List UInt8} {b : Bool} (h : dB l = some (b, r)) : r.length ≤ l.length := by
  have := dB_sound h
  rw [this, List.length_append]
  omega
theorem pB_any (l : List UInt8) (hl : l.length ≤ 10000000) (w : World) : Calls Try.prog 68 #[.string (mk l)] w fun e w' => ∃ x s b, e = .returned (.tuple #[.bool x, .string s, .bool b]) ∧ Below w.heap.size w w' ∧ (b = false → dB l = none) ∧ (b = true → ∃ r, s = mk r ∧ dB l = some (x, r)) := by
  refine (toBool_any (mk l) w (by rw [mk_size]; unfold maxLen; omega)).mono ?_
  rintro e w' ⟨rfl, hb⟩
  rw [mk_data]
  cases l with
  | nil => exact ⟨false, ⟨#[]⟩, false, rfl, hb, by intro _; rfl, by simp⟩
  | cons c r =>
    rw [boolRes_cons, show dB (c :: r) = if 1 < c.toNat then none else some (decide (c.toNat = 1), r) from rfl]
    by_cases h1 : 1 < c.toNat
    · rw [if_pos h1, if_pos h1]
      exact ⟨false, ⟨#[]⟩, false, rfl, hb, by simp, by simp⟩
    · rw [if_neg h1, if_neg h1]
      exact ⟨decide (c.toNat = 1), mk r, true, rfl, hb, by simp, fun _ => ⟨r, rfl, rfl⟩⟩
/-- What a read of voters into the cell k of a box leaves. -/
structure VxPost (w : World) (mb rb k : Nat) (TB : TypeId) (cs : Array Value) (q : Option (List UInt8)) (w' : World) (a : Option Addr) (n c : Nat) : Prop where
  box : own w' mb (cs.setIfInBounds k (.slice a n c)) TB
  rd : RdIs w' rb (q.bind fun l => (dV l).map fun p => p.2)
  eq : ∀ l p, q = some l → dV l = some p → n = p.1.length ∧ ROwn numTy w' (.slice a n c) p.1 ∧ ∀ b, (Value.slice a n c).ownBlock = some b → w.heap.size ≤ b
  chg : Chg (fun b => b = mb ∨ b = rb) w w'
theorem readVx {w : World} {mb rb tb k : Nat} {TB TF : TypeId} {cs : Array Value} {g : FuncId} {q : Option (List UInt8)} (hg : Enters g)
    (hset : ∀ (wx : World), own wx mb cs TB → ∀ (a : Option Addr) (n c : Nat), Calls Try.prog g #[.pointer (some ⟨mb, 0, none⟩), .slice a n c] wx fun e w' => e = .returned (.tuple #[]) ∧ w' = wx.setCell ⟨mb, k, none⟩ (.slice a n c))
    (h1 : mb ≠ rb) (h2 : tb ≠ rb) (h3 : tb ≠ mb) (hc : cs[k]? = some (.slice none 0 0)) (hbox : own w mb cs TB) (hrd : RdIs w rb q) (hq0 : ∀ l, q = some l → l.length ≤ 10000000) (htk : own w tb #[.func (.func g) #[.pointer (some ⟨mb, 0, none⟩)] #[]] TF) :
    Calls Try.prog 91 #[.pointer (some ⟨rb, 0, none⟩), .func (.func 21) #[] #[], .slice (some ⟨tb, 0, none⟩) 1 1] w fun e w' => e = .returned (.tuple #[]) ∧ ∃ a n c, VxPost w mb rb k TB cs q w' a n c := by
  have hcs : cs.setIfInBounds k (.slice none 0 0) = cs := by
    apply Array.ext_getElem?
    intro i
    rw [Array.getElem?_setIfInBounds]
    split
    · subst i
      split
      · exact hc.symm
      · next h => rw [Array.getElem?_eq_none (by omega)]
    · rfl
  let I : Nat → World → Prop := fun j wx => match j with
    | 0 => wx = w ∧ ∃ l, q = some l
    | _ + 1 => ∃ a n c, VxPost w mb rb k TB cs q wx a n c ∧ ∃ l p, q = some l ∧ dV l = some p
  let Z : World → Prop := fun wx => own wx tb #[.func (.func g) #[.pointer (some ⟨mb, 0, none⟩)] #[]] TF ∧ VxPost w mb rb k TB cs q wx none 0 0 ∧ (q.bind fun l => (dV l).map fun p => p.2) = none
  have hpre : RdPreV 1 tb rb (fun _ => g) (fun _ => .pointer (some ⟨mb, 0, none⟩)) I Z := by
    refine ⟨fun _ _ => hg, ?_, ?_⟩
    · intro j wx hj hI
      obtain rfl : j = 0 := by omega
      obtain ⟨rfl, l, rfl⟩ := hI
      have hll := hq0 l rfl
      obtain ⟨_, hrd⟩ := hrd
      refine ⟨mk l, hrd, (htk.cell 0).trans rfl, (pV_any l hll wx).mono ?_⟩
      rintro e w1 ⟨a, n, c, s, b, rfl, hb, h0, h5⟩
      have hbox1 := hbox.same (hb.block _ hbox.lt)
      have hrd1 := hrd.same (hb.block _ hrd.lt)
      have htk1 := htk.same (hb.block _ htk.lt)
      refine ⟨a, n, c, s, b, rfl, hrd1, ?_, ?_⟩
      · rintro rfl
        have hnone : ((some l).bind fun l => (dV l).map fun p => p.2) = none := by simp [h0 rfl]
        refine ⟨rdSet_other htk1 h2, ⟨by rw [hcs]; exact rdSet_other hbox1 h1, by rw [hnone]; exact ⟨s, rdSet_own hrd1 s false⟩, (fun l' p hl' hp => by cases hl'; rw [h0 rfl] at hp; cases hp), ?_⟩, hnone⟩
        exact (Chg.of_below hb).trans ((rdSet_chg w1 rb s false).mono (fun x e => .inr e)) (fun b e => .inl e)
      · rintro rfl
        obtain ⟨xs, r', rfl, hd, rfl, hm⟩ := h5 rfl
        have hsh := dV_shorter hd
        have hbox2 := (rdSet_other (s' := mk r') (b' := true) hbox1 h1)
        refine (hset _ hbox2 a xs.length c).mono ?_
        rintro e w3 ⟨rfl, rfl⟩
        have hrd2 := rdSet_own hrd1 (mk r') true
        have c1 : Chg (fun b => b = mb ∨ b = rb) wx w1 := Chg.of_below hb
        have c2 : Chg (fun b => b = mb ∨ b = rb) w1 (rdSet w1 rb (mk r') true) := (rdSet_chg w1 rb (mk r') true).mono (fun x e => .inr e)
        have c4 : Chg (fun b => b = mb ∨ b = rb) (rdSet w1 rb (mk r') true) ((rdSet w1 rb (mk r') true).setCell ⟨mb, k, none⟩ (.slice a xs.length c)) := (Chg.setCell _ ⟨mb, k, none⟩ _).mono (fun b e => .inl e)
        have hmlt := hbox.lt
        have hrlt := hrd.lt
        refine ⟨rfl, a, xs.length, c, ⟨hbox2.set k _, ?_, (fun l' p hl' hp => by cases hl'; rw [hd] at hp; cases hp; exact ⟨rfl, (hm.row.same (fun b e => by have h6 := hm.new b e; exact (c2.trans c4 (fun b e => .inl e)).block b (hm.row.lt b e) (by omega))), hm.new⟩), ?_⟩, l, _, rfl, hd⟩
        · have e1 : ((some l).bind fun l => (dV l).map fun p => p.2) = some r' := by simp [hd]
          rw [e1]
          exact ⟨by omega, hrd2.other (p := ⟨mb, k, none⟩) (Ne.symm h1) _⟩
        · exact (c1.trans c2 (fun b e => .inl e)).trans c4 (fun b e => .inl e)
    · intro j wx hj hZ
      obtain rfl : j = 0 := by omega
      obtain ⟨ho, hp, hq⟩ := hZ
      have hr := hp.rd
      rw [hq] at hr
      obtain ⟨s, hs⟩ := hr
      exact ⟨(hs.cell 1).trans rfl, (ho.cell 0).trans rfl⟩
  have h0 : I 0 w ∨ Z w := by
    cases q with
    | none => exact .inr ⟨htk, ⟨by rw [hcs]; exact hbox, hrd, (fun l p hl _ => by cases hl), Chg.refl _ _⟩, rfl⟩
    | some l => exact .inl ⟨rfl, l, rfl⟩
  refine (readV_any hpre (by omega) w h0).mono ?_
  rintro e w' ⟨rfl, h | h⟩
  · obtain ⟨a, n, c, hp, _⟩ := h
    exact ⟨rfl, a, n, c, hp⟩
  · exact ⟨rfl, none, 0, 0, h.2.1⟩
/-- What a read of entries into the cell k of a box leaves. -/
structure LxPost (w : World) (mb rb k : Nat) (TB : TypeId) (cs : Array Value) (q : Option (List UInt8)) (w' : World) (a : Option Addr) (n c : Nat) : Prop where
  box : own w' mb (cs.setIfInBounds k (.slice a n c)) TB
  rd : RdIs w' rb (q.bind fun l => (dL l).map fun p => p.2)
  eq : ∀ l p, q = some l → dL l = some p → n = p.1.length ∧ ROwn enTy w' (.slice a n c) p.1 ∧ ∀ b, (Value.slice a n c).ownBlock = some b → w.heap.size ≤ b
  chg : Chg (fun b => b = mb ∨ b = rb) w w'
theorem readLx {w : World} {mb rb tb k : Nat} {TB TF : TypeId} {cs : Array Value} {g : FuncId} {q : Option (List UInt8)} (hg : Enters g)
    (hset : ∀ (wx : World), own wx mb cs TB → ∀ (a : Option Addr) (n c : Nat), Calls Try.prog g #[.pointer (some ⟨mb, 0, none⟩), .slice a n c] wx fun e w' => e = .returned (.tuple #[]) ∧ w' = wx.setCell ⟨mb, k, none⟩ (.slice a n c))
    (h1 : mb ≠ rb) (h2 : tb ≠ rb) (h3 : tb ≠ mb) (hc : cs[k]? = some (.slice none 0 0)) (hbox : own w mb cs TB) (hrd : RdIs w rb q) (hq0 : ∀ l, q = some l → l.length ≤ 10000000) (htk : own w tb #[.func (.func g) #[.pointer (some ⟨mb, 0, none⟩)] #[]] TF) :
    Calls Try.prog 70 #[.pointer (some ⟨rb, 0, none⟩), .func (.func 71) #[] #[], .slice (some ⟨tb, 0, none⟩) 1 1] w fun e w' => e = .returned (.tuple #[]) ∧ ∃ a n c, LxPost w mb rb k TB cs q w' a n c := by
  have hcs : cs.setIfInBounds k (.slice none 0 0) = cs := by
    apply Array.ext_getElem?
    intro i
    rw [Array.getElem?_setIfInBounds]
    split
    · subst i
      split
      · exact hc.symm
      · next h => rw [Array.getElem?_eq_none (by omega)]
    · rfl
  let I : Nat → World → Prop := fun j wx => match j with
    | 0 => wx = w ∧ ∃ l, q = some l
    | _ + 1 => ∃ a n c, LxPost w mb rb k TB cs q wx a n c ∧ ∃ l p, q = some l ∧ dL l = some p
  let Z : World → Prop := fun wx => own wx tb #[.func (.func g) #[.pointer (some ⟨mb, 0, none⟩)] #[]] TF ∧ LxPost w mb rb k TB cs q wx none 0 0 ∧ (q.bind fun l => (dL l).map fun p => p.2) = none
  have hpre : RdPreL 1 tb rb (fun _ => g) (fun _ => .pointer (some ⟨mb, 0, none⟩)) I Z := by
    refine ⟨fun _ _ => hg, ?_, ?_⟩
    · intro j wx hj hI
      obtain rfl : j = 0 := by omega
      obtain ⟨rfl, l, rfl⟩ := hI
      have hll := hq0 l rfl
      obtain ⟨_, hrd⟩ := hrd
      refine ⟨mk l, hrd, (htk.cell 0).trans rfl, (pL_any l hll wx).mono ?_⟩
      rintro e w1 ⟨a, n, c, s, b, rfl, hb, h0, h5⟩
      have hbox1 := hbox.same (hb.block _ hbox.lt)
      have hrd1 := hrd.same (hb.block _ hrd.lt)
      have htk1 := htk.same (hb.block _ htk.lt)
      refine ⟨a, n, c, s, b, rfl, hrd1, ?_, ?_⟩
      · rintro rfl
        have hnone : ((some l).bind fun l => (dL l).map fun p => p.2) = none := by simp [h0 rfl]
        refine ⟨rdSet_other htk1 h2, ⟨by rw [hcs]; exact rdSet_other hbox1 h1, by rw [hnone]; exact ⟨s, rdSet_own hrd1 s false⟩, (fun l' p hl' hp => by cases hl'; rw [h0 rfl] at hp; cases hp), ?_⟩, hnone⟩
        exact (Chg.of_below hb).trans ((rdSet_chg w1 rb s false).mono (fun x e => .inr e)) (fun b e => .inl e)
      · rintro rfl
        obtain ⟨xs, r', rfl, hd, rfl, hm⟩ := h5 rfl
        have hsh := dL_shorter hd
        have hbox2 := (rdSet_other (s' := mk r') (b' := true) hbox1 h1)
        refine (hset _ hbox2 a xs.length c).mono ?_
        rintro e w3 ⟨rfl, rfl⟩
        have hrd2 := rdSet_own hrd1 (mk r') true
        have c1 : Chg (fun b => b = mb ∨ b = rb) wx w1 := Chg.of_below hb
        have c2 : Chg (fun b => b = mb ∨ b = rb) w1 (rdSet w1 rb (mk r') true) := (rdSet_chg w1 rb (mk r') true).mono (fun x e => .inr e)
        have c4 : Chg (fun b => b = mb ∨ b = rb) (rdSet w1 rb (mk r') true) ((rdSet w1 rb (mk r') true).setCell ⟨mb, k, none⟩ (.slice a xs.length c)) := (Chg.setCell _ ⟨mb, k, none⟩ _).mono (fun b e => .inl e)
        have hmlt := hbox.lt
        have hrlt := hrd.lt
        refine ⟨rfl, a, xs.length, c, ⟨hbox2.set k _, ?_, (fun l' p hl' hp => by cases hl'; rw [hd] at hp; cases hp; exact ⟨rfl, (hm.row.same (fun b e => by have h6 := hm.new b e; exact (c2.trans c4 (fun b e => .inl e)).block b (hm.row.lt b e) (by omega))), hm.new⟩), ?_⟩, l, _, rfl, hd⟩
        · have e1 : ((some l).bind fun l => (dL l).map fun p => p.2) = some r' := by simp [hd]
          rw [e1]
          exact ⟨by omega, hrd2.other (p := ⟨mb, k, none⟩) (Ne.symm h1) _⟩
        · exact (c1.trans c2 (fun b e => .inl e)).trans c4 (fun b e => .inl e)
    · intro j wx hj hZ
      obtain rfl : j = 0 := by omega
      obtain ⟨ho, hp, hq⟩ := hZ
      have hr := hp.rd
      rw [hq] at hr
      obtain ⟨s, hs⟩ := hr
      exact ⟨(hs.cell 1).trans rfl, (ho.cell 0).trans rfl⟩
  have h0 : I 0 w ∨ Z w := by
    cases q with
    | none => exact .inr ⟨htk, ⟨by rw [hcs]; exact hbox, hrd, (fun l p hl _ => by cases hl), Chg.refl _ _⟩, rfl⟩
    | some l => exact .inl ⟨rfl, l, rfl⟩
  refine (readL_any hpre (by omega) w h0).mono ?_
  rintro e w' ⟨rfl, h | h⟩
  · obtain ⟨a, n, c, hp, _⟩ := h
    exact ⟨rfl, a, n, c, hp⟩
  · exact ⟨rfl, none, 0, 0, h.2.1⟩
/-- What a read of a bool into the cell k of a box leaves. -/
structure BxPost (w : World) (mb rb k : Nat) (TB : TypeId) (cs : Array Value) (q : Option (List UInt8)) (w' : World) (x : Bool) : Prop where
  box : own w' mb (cs.setIfInBounds k (.bool x)) TB
  rd : RdIs w' rb (q.bind fun l => (dB l).map fun p => p.2)
  eq : ∀ l p, q = some l → dB l = some p → p.1 = x
  chg : Chg (fun b => b = mb ∨ b = rb) w w'
theorem readBx {w : World} {mb rb tb k : Nat} {TB TF : TypeId} {cs : Array Value} {g : FuncId} {q : Option (List UInt8)} (hg : Enters g)
    (hset : ∀ (wx : World), own wx mb cs TB → ∀ (x : Bool), Calls Try.prog g #[.pointer (some ⟨mb, 0, none⟩), .bool x] wx fun e w' => e = .returned (.tuple #[]) ∧ w' = wx.setCell ⟨mb, k, none⟩ (.bool x))
    (h1 : mb ≠ rb) (h2 : tb ≠ rb) (h3 : tb ≠ mb) (hc : cs[k]? = some (.bool false)) (hbox : own w mb cs TB) (hrd : RdIs w rb q) (hq0 : ∀ l, q = some l → l.length ≤ 10000000) (htk : own w tb #[.func (.func g) #[.pointer (some ⟨mb, 0, none⟩)] #[]] TF) :
    Calls Try.prog 67 #[.pointer (some ⟨rb, 0, none⟩), .func (.func 68) #[] #[], .slice (some ⟨tb, 0, none⟩) 1 1] w fun e w' => e = .returned (.tuple #[]) ∧ ∃ x, BxPost w mb rb k TB cs q w' x := by
  have hcs : cs.setIfInBounds k (.bool false) = cs := by
    apply Array.ext_getElem?
    intro i
    rw [Array.getElem?_setIfInBounds]
    split
    · subst i
      split
      · exact hc.symm
      · next h => rw [Array.getElem?_eq_none (by omega)]
    · rfl
  let I : Nat → World → Prop := fun j wx => match j with
    | 0 => wx = w ∧ ∃ l, q = some l
    | _ + 1 => ∃ x, BxPost w mb rb k TB cs q wx x ∧ ∃ l p, q = some l ∧ dB l = some p
  let Z : World → Prop := fun wx => own wx tb #[.func (.func g) #[.pointer (some ⟨mb, 0, none⟩)] #[]] TF ∧ BxPost w mb rb k TB cs q wx false ∧ (q.bind fun l => (dB l).map fun p => p.2) = none
  have hpre : RdPreB 1 tb rb (fun _ => g) (fun _ => .pointer (some ⟨mb, 0, none⟩)) I Z := by
    refine ⟨fun _ _ => hg, ?_, ?_⟩
    · intro j wx hj hI
      obtain rfl : j = 0 := by omega
      obtain ⟨rfl, l, rfl⟩ := hI
      have hll := hq0 l rfl
      obtain ⟨_, hrd⟩ := hrd
      refine ⟨mk l, hrd, (htk.cell 0).trans rfl, (pB_any l hll wx).mono ?_⟩
      rintro e w1 ⟨x, s, b, rfl, hb, h0, h5⟩
      have hbox1 := hbox.same (hb.block _ hbox.lt)
      have hrd1 := hrd.same (hb.block _ hrd.lt)
      have htk1 := htk.same (hb.block _ htk.lt)
      refine ⟨x, s, b, rfl, hrd1, ?_, ?_⟩
      · rintro rfl
        have hnone : ((some l).bind fun l => (dB l).map fun p => p.2) = none := by simp [h0 rfl]
        refine ⟨rdSet_other htk1 h2, ⟨by rw [hcs]; exact rdSet_other hbox1 h1, by rw [hnone]; exact ⟨s, rdSet_own hrd1 s false⟩, (fun l' p hl' hp => by cases hl'; rw [h0 rfl] at hp; cases hp), ?_⟩, hnone⟩
        exact (Chg.of_below hb).trans ((rdSet_chg w1 rb s false).mono (fun x e => .inr e)) (fun b e => .inl e)
      · rintro rfl
        obtain ⟨r', rfl, hd⟩ := h5 rfl
        have hsh := dB_shorter hd
        have hbox2 := (rdSet_other (s' := mk r') (b' := true) hbox1 h1)
        refine (hset _ hbox2 x).mono ?_
        rintro e w3 ⟨rfl, rfl⟩
        have hrd2 := rdSet_own hrd1 (mk r') true
        have c1 : Chg (fun b => b = mb ∨ b = rb) wx w1 := Chg.of_below hb
        have c2 : Chg (fun b => b = mb ∨ b = rb) w1 (rdSet w1 rb (mk r') true) := (rdSet_chg w1 rb (mk r') true).mono (fun x e => .inr e)
        have c4 : Chg (fun b => b = mb ∨ b = rb) (rdSet w1 rb (mk r') true) ((rdSet w1 rb (mk r') true).setCell ⟨mb, k, none⟩ (.bool x)) := (Chg.setCell _ ⟨mb, k, none⟩ _).mono (fun b e => .inl e)
        have hmlt := hbox.lt
        have hrlt := hrd.lt
        refine ⟨rfl, x, ⟨hbox2.set k _, ?_, (fun l' p hl' hp => by cases hl'; rw [hd] at hp; cases hp; rfl), ?_⟩, l, _, rfl, hd⟩
        · have e1 : ((some l).bind fun l => (dB l).map fun p => p.2) = some r' := by simp [hd]
          rw [e1]
          exact ⟨by omega, hrd2.other (p := ⟨mb, k, none⟩) (Ne.symm h1) _⟩
        · exact (c1.trans c2 (fun b e => .inl e)).trans c4 (fun b e => .inl e)
    · intro j wx hj hZ
      obtain rfl : j = 0 := by omega
      obtain ⟨ho, hp, hq⟩ := hZ
      have hr := hp.rd
      rw [hq] at hr
      obtain ⟨s, hs⟩ := hr
      exact ⟨(hs.cell 1).trans rfl, (ho.cell 0).trans rfl⟩
  have h0 : I 0 w ∨ Z w := by
    cases q with
    | none => exact .inr ⟨htk, ⟨by rw [hcs]; exact hbox, hrd, (fun l p hl _ => by cases hl), Chg.refl _ _⟩, rfl⟩
    | some l => exact .inl ⟨rfl, l, rfl⟩
  refine (readB_any hpre (by omega) w h0).mono ?_
  rintro e w' ⟨rfl, h | h⟩
  · obtain ⟨x, hp, _⟩ := h
    exact ⟨rfl, x, hp⟩
  · exact ⟨rfl, false, h.2.1⟩
end Go.Proofs.Ytppjojjejabaeaa
